/- CodeSums: the row, and its tied card: the law answers true, whatever it is handed. -/
import Derived.Test.YtfkihidbnfkbaaaGreatDoorCards
import Derived.Test.YtfkihidbnfkbaaaGreatDoorPv44
import Derived.Test.YtfkihidbnfkbaaaGreatDoorPv2
set_option linter.all false
set_option maxRecDepth 100000
namespace Go.Proofs.YtfkihidbnfkbaaaGreatDoor.codeSums
open Go.ChangeShapes Go.WideShapes Go.ChangeAt Go.RowKit Go.Joins Go.Deep
open Go.ChangeMaps (open_string shut_string)
theorem Gx(H:Type)(enc:TypeId×Value->H)(W:World)(base:Nat)(args:Array Value)(ds gs:List (DataW H))(before:List MemPlace)
    (hval0:∀(j:Nat) t v,Tryz.f3.params[j]? =some t->args[j]? =some v->Value.okWide Tryz.prog W .any base t v)
    (hW:DataW.Whole enc Tryz.prog Tryz.f3.params.toList Rows.codeSumsSpec.vars false W args.toList ds gs before)
    (hsz:(DataW.weightsEach Tryz.prog (Tryz.f3.params.toList++(OpenSpec.ofChange Rows.codeSumsSpec).bare.plain.varTypes Tryz.prog) (ds++gs)).all (· <=reachBytes)=true) (hL:laidMetH Tryz.prog cd.lst W):
    Calls Tryz.prog 3 args W λe W'=> ∃v,e= .returned v/\Rows.codeSumsSpec.post enc Tryz.prog Tryz.f3 false true false false W args v W':=by
  have hval:=hval0
  have hW':=hW
  obtain⟨p,q,hA0,hV,rfl,hfz,hnd⟩:=hW
  have hA:DataW.TrodAll enc Tryz.prog W 0 (λ_=>true) true Tryz.f3.params.toList args.toList ds p:=hA0
  rw[Tryz.params3]at hA hval
  obtain⟨v0,vs0,d0,ds0,p0,q0,hargs,rfl,rfl,h0,r0⟩:=trodAll_cons hA
  obtain⟨rfl,rfl,rfl⟩:=trodAll_nil r0
  obtain rfl:args=#[v0]:=by cases args;simp_all
  obtain⟨rfl,rfl⟩:=trodVars_none hV
  have k0:=h0
  have lt0:∀x∈p0,x.block<W.heap.size:=by obtain⟨m,hm⟩:=k0;exact DataW.trod_lt m _ _ _ hm
  obtain⟨s0,rfl,e0,f0,ws0⟩:=open_string Tryz.underlying9 (hval 0 9 v0 rfl rfl) h0
  clear hA0 hval0
  have hs:s0.size<=140737488355327:=by
    have h:=sized_string hsz (j:=0) (t:=9) rfl (by rw[e0];rfl)
    have e:s0.data.toList.length=s0.size:=Array.length_toList
    have:reachBytes=140737488351232\/reachBytes<=140737488355327:=.inr (by decide)
    omega
  refine(cd.AaH s0 W (cd.Abc hL)).mono λe W' ⟨he,bel⟩=>?_
  subst he
  exact⟨_,rfl,_,_,_,[],_,[],hW',trodAll_mk1 (shut_bool Tryz.underlying4 _),(trodAll_cons_mk (Below.trod vl.laidOut (by kernel_rfl) (of_decide_eq_true (by kernel_rfl)) k0 bel lt0) trodAll_mk0),rfl,bel.frame _,λh=>by cases h⟩
theorem Gy(os:Os):laidMetH Tryz.prog cd.lst ((World.doorLaid Tryz.prog 400 os).forCall (λ_ _=>0) ⟨#[],#[.string ⟨#[]⟩],[]⟩).memory:=
  laidMetH_of_parts3 (fuel:=8) (laidMet_of_run' 8 (by kernel_rfl) (by kernel_rfl)) (by kernel_rfl) (by kernel_rfl)
theorem reads(os:Os){H:Type}(enc:TypeId×Value->H):∃places,DataW.whole enc Tryz.prog ((World.doorLaid Tryz.prog 400 os).forCall (λ_ _=>0) ⟨#[],#[.string ⟨#[]⟩],[]⟩).memory Tryz.f3.params.toList Rows.codeSumsSpec.vars false (#[.string ⟨#[]⟩]:Array Value).toList 8=some ([.lit (.string [])],[],places):=
  ⟨[],by kernel_rfl⟩
theorem lifted(os:Os)(started:os.Started)(H:Type)(enc:TypeId×Value->H)(F:Stop.Interp):
    ReturnsInHanded {} Tryz.checked os 3 .any ((OpenSpec.ofChange Rows.codeSumsSpec).preRow enc Tryz.prog Tryz.f3 Rows.codeSumsRow.domain false Rows.codeSumsRow.laid) (((OpenSpec.ofChange Rows.codeSumsSpec).at F).post enc Tryz.prog Tryz.f3 false true false false):=by
  obtain⟨places,hx⟩:=reads os enc
  refine returnsInHanded_of_row (C:=Tryz.checked) (s:=OpenSpec.ofChange Rows.codeSumsSpec) vl.own started (by kernel_rfl) Tryz.func3
    (witness_row_atRef (enc:=enc) (C:=Tryz.checked) false (World.doorLaid Tryz.prog 400 os) #[.string ⟨#[]⟩] rfl (by kernel_rfl) (by kernel_rfl) (by kernel_rfl)
      (OpenSpec.preRow_of_cond 8 hx (by kernel_rfl) (λk hk=>by cases hk) (by kernel_rfl) (Gy os))) ?_
  intro W base args ds gs before hval hW _ _ hsz hL _ _
  exact Gx H enc W base args ds gs before hval hW hsz hL
theorem kA:Tryz.prog.inPlace 3=Rows.codeSumsRow.inPlace:=by kernel_rfl
theorem kB:Tryz.prog.unfollowed 3=Rows.codeSumsRow.unfollowed:=by kernel_rfl
theorem kC:Tryz.prog.recurses 3=Rows.codeSumsRow.recurses:=by kernel_rfl
theorem kD:Tryz.prog.varsNamed 3=Rows.codeSumsRow.named:=by kernel_rfl
theorem kG:namedTie Tryz.prog Rows.codeSumsRow.named (OpenSpec.ofChange Rows.codeSumsSpec).bare.vars=true:=by kernel_rfl
theorem closed:joinedFacts Tryz.prog 3 Tryz.f3 (OpenSpec.ofChange Rows.codeSumsSpec).bare Rows.codeSumsRow=true:=by
  unfold joinedFacts
  rw[kA,kB,kC,kD,kG,cd.kE,cd.kF,cd.kH,cd.kI,cd.kJ,cd.kK,cd.kL,cd.kM,cd.kN]
  kernel_rfl
theorem named:Tryz.pinned.checked.prog.funcNamed Rows.codeSumsRow.func=some 3:=by kernel_rfl
theorem VG:Tryz.f3.isInstance Tryz.pinned.checked.prog Rows.codeSumsRow.origin Rows.codeSumsRow.targs:=of_decide_eq_true (by kernel_rfl)
theorem wrap:Tryz.f3.isWrapper Tryz.pinned.checked.prog Rows.codeSumsRow.wrapper Rows.codeSumsRow.mainSum:=by unfold Func.isWrapper;first|(rw[if_pos (by decide+kernel)];kernel_rfl)|(rw[if_neg (by decide+kernel)];exact⟨rfl,rfl⟩)
theorem closed2:joinedFacts Tryz.pinned.checked.prog 3 Tryz.f3 (OpenSpec.ofChange Rows.codeSumsSpec).bare Rows.codeSumsRow=true:=by
  rw[show Tryz.pinned.checked.prog=Tryz.prog from rfl]
  exact closed
theorem said:Rows.CodeSumsSaid:=
  OpenClaim.holds_of_cond 3 Tryz.f3 rfl rfl rfl rfl rfl rfl rfl ⟨rfl,rfl,rfl,rfl,rfl⟩ rfl rfl rfl rfl rfl named Tryz.func3 closed2 VG wrap
    (λos started H enc _ F=>by rw[OpenClaim.pre_eq_preRow];exact lifted os started H enc F)
theorem plain(f:FuncId)(fn:Func)(hf:Tryz.pinned.checked.prog.funcNamed "meetwater/meetwaterlaw.CodeSums" =some f)(hfn:Tryz.pinned.checked.prog.funcs[f]? =some fn):
    false=Tryz.pinned.checked.prog.looks []/\∀(j:Nat) t,fn.params[j]? =some t->Tryz.pinned.checked.prog.wantsStandIn t=false:=by
  obtain rfl:f=3:=Option.some.inj ((show Tryz.prog.funcNamed "meetwater/meetwaterlaw.CodeSums" =some 3 by kernel_rfl).symm.trans hf)|>.symm
  obtain rfl:fn=Tryz.f3:=(Option.some.inj (Tryz.func3.symm.trans hfn)).symm
  refine⟨by kernel_rfl,λj t ht=>?_⟩
  rw[Tryz.params3]at ht
  have:=Array.mem_of_getElem? ht
  simp only[List.mem_toArray,List.mem_cons,List.not_mem_nil,or_false]at this
  obtain rfl:=this
  exact(show Tryz.prog.wantsStandIn 9=false by kernel_rfl)
theorem proved:Rows.CodeSumsCardSaid:=
  Claim7.holds_tied_plain_at .later [] _ _ _ _ said (λ_ h=>by cases h) (by kernel_rfl) (λ_ h=>by cases h) codeSums_row_tie rfl ⟨rfl,rfl⟩ (by kernel_rfl) rfl plain (by kernel_rfl)
#print axioms proved
end Go.Proofs.YtfkihidbnfkbaaaGreatDoor.codeSums
