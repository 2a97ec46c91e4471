/- CodeReads: the row, and its tied card: the law answers true, whatever it is handed. -/
import Derived.Test.YtfkihidbnfkbaaaGreatDoorCards
import Derived.Test.YtfkihidbnfkbaaaGreatDoorPv2
import Derived.Test.YtfkihidbnfkbaaaGreatDoorPv47
set_option linter.all false
set_option maxRecDepth 100000
namespace Go.Proofs.YtfkihidbnfkbaaaGreatDoor.codeReads
open Go.ChangeShapes Go.WideShapes Go.ChangeAt Go.RowKit Go.Joins Go.Deep
open Go.ChangeMaps (open_string shut_string)
theorem AeY(s:ByteArray):∃l:List UInt8,s=⟨l.toArray⟩:=⟨s.data.toList,by cases s;simp⟩
theorem AcE(H:Type)(enc:TypeId×Value->H)(W:World)(base:Nat)(args:Array Value)(ds gs:List (DataW H))(before:List MemPlace)
    (hval0:∀(j:Nat) t v,Tryz.f6.params[j]? =some t->args[j]? =some v->Value.okWide Tryz.prog W .any base t v)
    (hW:DataW.Whole enc Tryz.prog Tryz.f6.params.toList Rows.codeReadsSpec.vars false W args.toList ds gs before)
    (hsz:(DataW.weightsEach Tryz.prog (Tryz.f6.params.toList++(OpenSpec.ofChange Rows.codeReadsSpec).bare.plain.varTypes Tryz.prog) (ds++gs)).all (· <=reachBytes)=true) (hL:laidMetH Tryz.prog cd.lays W):
    Calls Tryz.prog 6 args W λe W'=> ∃v,e= .returned v/\Rows.codeReadsSpec.post enc Tryz.prog Tryz.f6 false true false false W args v W':=by
  have hval:=hval0
  have hW':=hW
  obtain⟨p,q,hA0,hV,rfl,hfz,hnd⟩:=hW
  have hA:DataW.TrodAll enc Tryz.prog W 0 (λ_=>true) true Tryz.f6.params.toList args.toList ds p:=hA0
  rw[Tryz.params6]at hA hval
  obtain⟨v0,vs0,d0,ds0,p0,q0,hargs,rfl,rfl,h0,r0⟩:=trodAll_cons hA
  obtain⟨v1,vs1,d1,ds1,p1,q1,rfl,rfl,rfl,h1,r1⟩:=trodAll_cons r0
  obtain⟨rfl,rfl,rfl⟩:=trodAll_nil r1
  obtain rfl:args=#[v0,v1]:=by cases args;simp_all
  obtain⟨rfl,rfl⟩:=trodVars_none hV
  have k0:=h0
  have lt0:∀x∈p0,x.block<W.heap.size:=by obtain⟨m,hm⟩:=k0;exact DataW.trod_lt m _ _ _ hm
  obtain⟨pp,xx,hv0,hpa,hpw⟩:=pl.Aar (hval 0 32 v0 rfl rfl) h0
  subst hv0
  have k1:=h1
  have lt1:∀x∈p1,x.block<W.heap.size:=by obtain⟨m,hm⟩:=k1;exact DataW.trod_lt m _ _ _ hm
  obtain⟨s1,rfl,e1,f1,ws1⟩:=open_string Tryz.underlying9 (hval 1 9 v1 rfl rfl) h1
  obtain⟨l1,hl1⟩:=AeY s1
  subst hl1
  clear hA0 hval0
  refine(cd.Wl pp xx l1 W hpw hpa (cd.Agf hL) (cd.Agg hL)).mono λe W' ⟨he,bel⟩=>?_
  subst he
  exact⟨_,rfl,_,_,_,[],_,[],hW',trodAll_mk1 (shut_bool Tryz.underlying4 _),(trodAll_cons_mk (Below.trod vl.laidOut (by kernel_rfl) (Fd (by kernel_rfl)) k0 bel lt0) (trodAll_cons_mk (Below.trod vl.laidOut (by kernel_rfl) (Fd (by kernel_rfl)) k1 bel lt1) trodAll_mk0)),rfl,bel.frame _,λh=>by cases h⟩
theorem AcF(os:Os):laidMetH Tryz.prog cd.lays ((World.doorLaid Tryz.prog 400 os).forCall (λ_ _=>0) ⟨#[],#[.agg #[.int .i64 0,.int .i64 0,.int .i64 0,.int .i64 0,.int .i64 0,.int .i64 0,.slice none 0 0,.slice none 0 0,.slice none 0 0,.slice none 0 0,.bool false,.slice none 0 0,.slice none 0 0],.string ⟨#[]⟩],[]⟩).memory:=
  laidMetH_of_parts3 (fuel:=8) (laidMet_of_run' 8 (by kernel_rfl) (by kernel_rfl)) (by kernel_rfl) (by kernel_rfl)
theorem reads(os:Os){H:Type}(enc:TypeId×Value->H):∃places,DataW.whole enc Tryz.prog ((World.doorLaid Tryz.prog 400 os).forCall (λ_ _=>0) ⟨#[],#[.agg #[.int .i64 0,.int .i64 0,.int .i64 0,.int .i64 0,.int .i64 0,.int .i64 0,.slice none 0 0,.slice none 0 0,.slice none 0 0,.slice none 0 0,.bool false,.slice none 0 0,.slice none 0 0],.string ⟨#[]⟩],[]⟩).memory Tryz.f6.params.toList Rows.codeReadsSpec.vars false (#[.agg #[.int .i64 0,.int .i64 0,.int .i64 0,.int .i64 0,.int .i64 0,.int .i64 0,.slice none 0 0,.slice none 0 0,.slice none 0 0,.slice none 0 0,.bool false,.slice none 0 0,.slice none 0 0],.string ⟨#[]⟩]:Array Value).toList 8=some ([.agg [.lit (.int .i64 0),.lit (.int .i64 0),.lit (.int .i64 0),.lit (.int .i64 0),.lit (.int .i64 0),.lit (.int .i64 0),.nil,.nil,.nil,.nil,.lit (.bool false),.nil,.nil],.lit (.string [])],[],places):=
  ⟨[],by kernel_rfl⟩
theorem lifted(os:Os)(started:os.Started)(H:Type)(enc:TypeId×Value->H)(F:Stop.Interp):
    ReturnsInHanded {} Tryz.checked os 6 .any ((OpenSpec.ofChange Rows.codeReadsSpec).preRow enc Tryz.prog Tryz.f6 Rows.codeReadsRow.domain false Rows.codeReadsRow.laid) (((OpenSpec.ofChange Rows.codeReadsSpec).at F).post enc Tryz.prog Tryz.f6 false true false false):=by
  obtain⟨places,hx⟩:=reads os enc
  refine returnsInHanded_of_row (C:=Tryz.checked) (s:=OpenSpec.ofChange Rows.codeReadsSpec) vl.own started (by kernel_rfl) Tryz.func6
    (witness_row_atRef (enc:=enc) (C:=Tryz.checked) false (World.doorLaid Tryz.prog 400 os) #[.agg #[.int .i64 0,.int .i64 0,.int .i64 0,.int .i64 0,.int .i64 0,.int .i64 0,.slice none 0 0,.slice none 0 0,.slice none 0 0,.slice none 0 0,.bool false,.slice none 0 0,.slice none 0 0],.string ⟨#[]⟩] rfl (by kernel_rfl) (by kernel_rfl) (by kernel_rfl)
      (OpenSpec.preRow_of_cond 8 hx (by kernel_rfl) (λk hk=>by cases hk) (by kernel_rfl) (AcF os))) ?_
  intro W base args ds gs before hval hW _ _ hsz hL _ _
  exact AcE H enc W base args ds gs before hval hW hsz hL
theorem kA:Tryz.prog.inPlace 6=Rows.codeReadsRow.inPlace:=by kernel_rfl
theorem kB:Tryz.prog.unfollowed 6=Rows.codeReadsRow.unfollowed:=by kernel_rfl
theorem kC:Tryz.prog.recurses 6=Rows.codeReadsRow.recurses:=by kernel_rfl
theorem kD:Tryz.prog.varsNamed 6=Rows.codeReadsRow.named:=by kernel_rfl
theorem kG:namedTie Tryz.prog Rows.codeReadsRow.named (OpenSpec.ofChange Rows.codeReadsSpec).bare.vars=true:=by kernel_rfl
theorem closed:joinedFacts Tryz.prog 6 Tryz.f6 (OpenSpec.ofChange Rows.codeReadsSpec).bare Rows.codeReadsRow=true:=by
  unfold joinedFacts
  rw[kA,kB,kC,kD,kG,cd.kE,cd.kF,cd.kH,cd.kI,cd.kJ,cd.kK,cd.kL,cd.kM,cd.kN]
  kernel_rfl
theorem named:Tryz.pinned.checked.prog.funcNamed Rows.codeReadsRow.func=some 6:=by kernel_rfl
theorem inst:Tryz.f6.isInstance Tryz.pinned.checked.prog Rows.codeReadsRow.origin Rows.codeReadsRow.targs:=Fd (by kernel_rfl)
theorem wrap:Tryz.f6.isWrapper Tryz.pinned.checked.prog Rows.codeReadsRow.wrapper Rows.codeReadsRow.mainSum:=by unfold Func.isWrapper;first|(rw[AE (by decide+kernel)];kernel_rfl)|(rw[AC (by decide+kernel)];exact⟨rfl,rfl⟩)
theorem closed2:joinedFacts Tryz.pinned.checked.prog 6 Tryz.f6 (OpenSpec.ofChange Rows.codeReadsSpec).bare Rows.codeReadsRow=true:=by
  rw[show Tryz.pinned.checked.prog=Tryz.prog from rfl]
  exact closed
theorem said:Rows.CodeReadsSaid:=
  OpenClaim.holds_of_cond 6 Tryz.f6 rfl rfl rfl rfl rfl rfl rfl ⟨rfl,rfl,rfl,rfl,rfl⟩ rfl rfl rfl rfl rfl named Tryz.func6 closed2 inst wrap
    (λos started H enc _ F=>by rw[OpenClaim.pre_eq_preRow];exact lifted os started H enc F)
theorem plain(f:FuncId)(fn:Func)(hf:Tryz.pinned.checked.prog.funcNamed "meetwater/meetwaterlaw.CodeReads" =some f)(hfn:Tryz.pinned.checked.prog.funcs[f]? =some fn):
    false=Tryz.pinned.checked.prog.looks []/\∀(j:Nat) t,fn.params[j]? =some t->Tryz.pinned.checked.prog.wantsStandIn t=false:=by
  obtain rfl:f=6:=aI ((show Tryz.prog.funcNamed "meetwater/meetwaterlaw.CodeReads" =some 6 by kernel_rfl).symm.trans hf)|>.symm
  obtain rfl:fn=Tryz.f6:=(aI (Tryz.func6.symm.trans hfn)).symm
  refine⟨by kernel_rfl,λj t ht=>?_⟩
  rw[Tryz.params6]at ht
  have:=Array.mem_of_getElem? ht
  simp only[List.mem_toArray,List.mem_cons,List.not_mem_nil,or_false]at this
  rcases this with rfl|rfl
  · exact(show Tryz.prog.wantsStandIn 32=false by kernel_rfl)
  · exact(show Tryz.prog.wantsStandIn 9=false by kernel_rfl)
theorem proved:Rows.CodeReadsCardSaid:=
  Claim7.holds_tied_plain_at .later [] _ _ _ _ said (λ_ h=>by cases h) (by kernel_rfl) (λ_ h=>by cases h) codeReads_row_tie rfl ⟨rfl,rfl⟩ (by kernel_rfl) rfl plain (by kernel_rfl)
#print axioms proved
end Go.Proofs.YtfkihidbnfkbaaaGreatDoor.codeReads
