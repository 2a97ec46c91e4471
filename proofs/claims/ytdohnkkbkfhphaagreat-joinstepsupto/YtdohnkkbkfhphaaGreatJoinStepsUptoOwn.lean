/- JoinSteps holds where what it reads is of bulk at most 1048576: whatever plan, join and event are handed in, the law's body returns true. -/
import Derived.Test.YtdohnkkbkfhphaaGreatPw54
set_option linter.all false
set_option maxRecDepth 100000
namespace Go.Proofs.YtdohnkkbkfhphaaGreat.joinSteps
open Go.ChangeShapes Go.WideShapes Go.ChangeAt Go.RowKit Go.Joins Go.Deep
theorem small{H:Type}{d0 d1:DataW H}{l:List (DataW H)}(hk:Rows.uptoSmall H (d0::d1::l)=true):Rows.uptoBulk d1<=1048576:=by
  have h:Rows.uptoBulkAll (d0::d1::l)<=1048576:=of_decide_eq_true hk
  simp only[Rows.uptoBulkAll]at h
  omega
theorem lifted(os:Os)(started:os.Started)(H:Type)(enc:TypeId×Value->H)(F:Stop.Interp):
    ReturnsInHanded {} Tryz.checked os 4 .any ((Rows.OpenSpec.upto Rows.joinStepsSpec).pre6 enc Tryz.prog Tryz.f4 Rows.joinStepsUptoRow.domain false) (((Rows.OpenSpec.upto Rows.joinStepsSpec).at F).post enc Tryz.prog Tryz.f4 false true false false):=by
  refine returnsInHanded_of_cond (C:=Tryz.checked) (s:=Rows.OpenSpec.upto Rows.joinStepsSpec) (k:=Rows.uptoSmall) rfl vl.own started (by kernel_rfl) Tryz.func4
    (OpenSpec.witness (enc:=enc) (C:=Tryz.checked) (s:=Rows.OpenSpec.upto Rows.joinStepsSpec) (k:=Rows.uptoSmall) rfl false ⟨#[],#[.agg #[.int .i64 0,.int .i64 0,.int .i64 0,.int .i64 0,.int .i64 0,.int .i64 0,.slice none 0 0,.slice none 0 0,.slice none 0 0,.slice none 0 0,.bool false,.slice none 0 0,.slice none 0 0],.agg #[.int .i64 0,.slice none 0 0,.slice none 0 0,.int .i64 0,.slice none 0 0,.slice none 0 0,.int .i64 0,.int .i64 0,.int .i64 0],.agg #[.int .i64 0,.int .i64 0,.int .i64 0,.slice none 0 0]],[]⟩ 8 (by kernel_rfl) (by kernel_rfl) (by kernel_rfl)
      (x:=([.agg [.lit (.int .i64 0),.lit (.int .i64 0),.lit (.int .i64 0),.lit (.int .i64 0),.lit (.int .i64 0),.lit (.int .i64 0),.nil,.nil,.nil,.nil,.lit (.bool false),.nil,.nil],.agg [.agg [.lit (.int .i64 0),.nil,.nil],.agg [.lit (.int .i64 0),.nil,.nil],.lit (.int .i64 0),.lit (.int .i64 0),.lit (.int .i64 0)],.agg [.lit (.int .i64 0),.lit (.int .i64 0),.lit (.int .i64 0),.nil]],[],[])) (by kernel_rfl) rfl (by kernel_rfl)) ?_
  intro W base args ds gs before hval0 hW _ hk _
  have hval:∀(j:Nat) t v,Tryz.f4.params[j]? =some t->args[j]? =some v->Value.okWide Tryz.prog W .any base t v:=hval0
  have hW':=hW
  obtain⟨p,q,hA0,hV,rfl,hfz,hnd⟩:=hW
  have hA:DataW.TrodAll enc Tryz.prog W 0 (λ_=>true) true Tryz.f4.params.toList args.toList ds p:=hA0
  rw[Tryz.params4]at hA hval
  obtain⟨v0,vs0,d0,ds0,p0,q0,hargs,rfl,rfl,h0,r0⟩:=trodAll_cons hA
  obtain⟨v1,vs1,d1,ds1,p1,q1,rfl,rfl,rfl,h1,r1⟩:=trodAll_cons r0
  obtain⟨v2,vs2,d2,ds2,p2,q2,rfl,rfl,rfl,h2,r2⟩:=trodAll_cons r1
  obtain⟨rfl,rfl,rfl⟩:=trodAll_nil r2
  obtain rfl:args=#[v0,v1,v2]:=by cases args;simp_all
  obtain⟨rfl,rfl⟩:=trodVars_none hV
  have hbulk:Rows.uptoBulk d1<=1048576:=small (d0:=d0) (l:=[d2]) (by rw[List.append_nil]at hk;exact hk)
  have k0:=h0
  have lt0:∀x∈p0,x.block<W.heap.size:=by obtain⟨m,hm⟩:=k0;exact DataW.trod_lt m _ _ _ hm
  obtain⟨pp,xx,hv0,hpa,hpw⟩:=pl.Pq (hval 0 25 v0 rfl rfl) h0
  subst hv0
  have k1:=h1
  have lt1:∀x∈p1,x.block<W.heap.size:=by obtain⟨m,hm⟩:=k1;exact DataW.trod_lt m _ _ _ hm
  obtain⟨s,y,hv1,hat,hsum,hents,_,_,hseq⟩:=jn.WJ (hval 1 31 v1 rfl rfl) h1
  subst hv1
  have k2:=h2
  have lt2:∀x∈p2,x.block<W.heap.size:=by obtain⟨m,hm⟩:=k2;exact DataW.trod_lt m _ _ _ hm
  obtain⟨ve,ra,rc,hv2,hev⟩:=jn.Tx (hval 2 43 v2 rfl rfl) h2
  subst hv2
  clear hA0 hval0
  have hwf:jn.wfJ s:=⟨⟨λz hz=>⟨(hents z (List.mem_append.2 (.inl hz))).1,(hents z (List.mem_append.2 (.inl hz))).2.1⟩,by omega⟩,⟨λz hz=>⟨(hents z (List.mem_append.2 (.inr hz))).1,(hents z (List.mem_append.2 (.inr hz))).2.1⟩,by omega⟩,hseq⟩
  refine(jn.Ty pp xx s y ve ra rc W hpw hpa hat hwf (λz hz=>⟨(hents z hz).1,by have:=(hents z hz).2.2.1;omega,by have:=(hents z hz).2.2.2;omega⟩) hev).mono λe W' ⟨he,bel⟩=>?_
  subst he
  exact⟨_,rfl,_,_,_,[],_,[],hW',trodAll_mk1 (shut_bool Tryz.underlying4 _),(trodAll_cons_mk (Below.trod vl.laidOut (by kernel_rfl) (of_decide_eq_true (by kernel_rfl)) k0 bel lt0) (trodAll_cons_mk (Below.trod vl.laidOut (by kernel_rfl) (of_decide_eq_true (by kernel_rfl)) k1 bel lt1) (trodAll_cons_mk (Below.trod vl.laidOut (by kernel_rfl) (of_decide_eq_true (by kernel_rfl)) k2 bel lt2) trodAll_mk0))),rfl,bel.frame _,λh=>by cases h⟩
theorem proved:Rows.JoinStepsUptoSaid:=
  OpenClaim.holds_of_cond 4 Tryz.f4 rfl rfl rfl rfl rfl rfl rfl ⟨rfl,rfl,rfl,rfl,rfl⟩ rfl rfl rfl rfl rfl (by kernel_rfl) Tryz.func4 (by kernel_rfl)
    (of_decide_eq_true (by kernel_rfl)) (by unfold Func.isWrapper;first|(rw[if_pos (by decide+kernel)];kernel_rfl)|(rw[if_neg (by decide+kernel)];exact⟨rfl,rfl⟩))
    (λos started H enc _ F=>lifted os started H enc F)
#print axioms proved
end Go.Proofs.YtdohnkkbkfhphaaGreat.joinSteps
