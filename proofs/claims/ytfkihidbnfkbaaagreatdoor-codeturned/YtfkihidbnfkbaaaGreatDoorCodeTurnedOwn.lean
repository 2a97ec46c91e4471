/- CodeTurned: the row, and its tied card: the law answers true, whatever it is handed. -/
import Derived.Test.YtfkihidbnfkbaaaGreatDoorCards
import Derived.Test.YtfkihidbnfkbaaaGreatDoorPv44
import Derived.Test.YtfkihidbnfkbaaaGreatDoorPv2
import Derived.Test.YtfkihidbnfkbaaaGreatDoorPv45
set_option linter.all false
set_option maxRecDepth 100000
namespace Go.Proofs.YtfkihidbnfkbaaaGreatDoor.codeTurned
open Go.ChangeShapes Go.WideShapes Go.ChangeAt Go.RowKit Go.Joins Go.Deep
open Go.ChangeMaps (open_string shut_string)
theorem Gx(H:Type)(enc:TypeId×Value->H)(W:World)(base:Nat)(args:Array Value)(ds gs:List (DataW H))(before:List MemPlace)
    (hval0:∀(j:Nat) t v,Tryz.f8.params[j]? =some t->args[j]? =some v->Value.okWide Tryz.prog W .any base t v)
    (hW:DataW.Whole enc Tryz.prog Tryz.f8.params.toList Rows.codeTurnedSpec.vars false W args.toList ds gs before)
    (hsz:(DataW.weightsEach Tryz.prog (Tryz.f8.params.toList++(OpenSpec.ofChange Rows.codeTurnedSpec).bare.plain.varTypes Tryz.prog) (ds++gs)).all (· <=reachBytes)=true) (hL:laidMetH Tryz.prog cd.lst W):
    Calls Tryz.prog 8 args W λe W'=> ∃v,e= .returned v/\Rows.codeTurnedSpec.post enc Tryz.prog Tryz.f8 false true false false W args v W':=by
  have hval:=hval0
  have hW':=hW
  obtain⟨p,q,hA0,hV,rfl,hfz,hnd⟩:=hW
  have hA:DataW.TrodAll enc Tryz.prog W 0 (λ_=>true) true Tryz.f8.params.toList args.toList ds p:=hA0
  rw[Tryz.params8]at hA hval
  obtain⟨v0,vs0,d0,ds0,p0,q0,hargs,rfl,rfl,h0,r0⟩:=trodAll_cons hA
  obtain⟨v1,vs1,d1,ds1,p1,q1,rfl,rfl,rfl,h1,r1⟩:=trodAll_cons r0
  obtain⟨v2,vs2,d2,ds2,p2,q2,rfl,rfl,rfl,h2,r2⟩:=trodAll_cons r1
  obtain⟨rfl,rfl,rfl⟩:=trodAll_nil r2
  obtain rfl:args=#[v0,v1,v2]:=by cases args;simp_all
  obtain⟨rfl,rfl⟩:=trodVars_none hV
  have k0:=h0
  have lt0:∀x∈p0,x.block<W.heap.size:=by obtain⟨m,hm⟩:=k0;exact DataW.trod_lt m _ _ _ hm
  obtain⟨s0,rfl,e0,f0,ws0⟩:=open_string Tryz.underlying9 (hval 0 9 v0 rfl rfl) h0
  have k1:=h1
  have lt1:∀x∈p1,x.block<W.heap.size:=by obtain⟨m,hm⟩:=k1;exact DataW.trod_lt m _ _ _ hm
  obtain⟨n1,rfl,e1,f1,wn1⟩:=open_int Tryz.underlying3 (hval 1 3 v1 rfl rfl) h1
  have k2:=h2
  have lt2:∀x∈p2,x.block<W.heap.size:=by obtain⟨m,hm⟩:=k2;exact DataW.trod_lt m _ _ _ hm
  obtain⟨n2,rfl,e2,f2,wn2⟩:=open_int Tryz.underlying3 (hval 2 3 v2 rfl rfl) h2
  clear hA0 hval0
  have hs:s0.size<=140737488355327:=by
    have h:=sized_string hsz (j:=0) (t:=9) rfl (by rw[e0];rfl)
    have e:s0.data.toList.length=s0.size:=Array.length_toList
    have:reachBytes=140737488351232\/reachBytes<=140737488355327:=.inr (by decide)
    omega
  refine(cd.ZA s0 n1 n2 W (cd.Abc hL) (bounds_i64 wn1).1 (bounds_i64 wn1).2 (bounds_i64 wn2).1 (bounds_i64 wn2).2).mono λe W' ⟨he,bel⟩=>?_
  subst he
  exact⟨_,rfl,_,_,_,[],_,[],hW',trodAll_mk1 (shut_bool Tryz.underlying4 _),(trodAll_cons_mk (Below.trod vl.laidOut (by kernel_rfl) (of_decide_eq_true (by kernel_rfl)) k0 bel lt0) (trodAll_cons_mk (Below.trod vl.laidOut (by kernel_rfl) (of_decide_eq_true (by kernel_rfl)) k1 bel lt1) (trodAll_cons_mk (Below.trod vl.laidOut (by kernel_rfl) (of_decide_eq_true (by kernel_rfl)) k2 bel lt2) trodAll_mk0))),rfl,bel.frame _,λh=>by cases h⟩
theorem Gy(os:Os):laidMetH Tryz.prog cd.lst ((World.doorLaid Tryz.prog 400 os).forCall (λ_ _=>0) ⟨#[],#[.string ⟨#[]⟩,.int .i64 0,.int .i64 0],[]⟩).memory:=
  laidMetH_of_parts3 (fuel:=8) (laidMet_of_run' 8 (by kernel_rfl) (by kernel_rfl)) (by kernel_rfl) (by kernel_rfl)
theorem reads(os:Os){H:Type}(enc:TypeId×Value->H):∃places,DataW.whole enc Tryz.prog ((World.doorLaid Tryz.prog 400 os).forCall (λ_ _=>0) ⟨#[],#[.string ⟨#[]⟩,.int .i64 0,.int .i64 0],[]⟩).memory Tryz.f8.params.toList Rows.codeTurnedSpec.vars false (#[.string ⟨#[]⟩,.int .i64 0,.int .i64 0]:Array Value).toList 8=some ([.lit (.string []),.lit (.int .i64 0),.lit (.int .i64 0)],[],places):=
  ⟨[],by kernel_rfl⟩
theorem lifted(os:Os)(started:os.Started)(H:Type)(enc:TypeId×Value->H)(F:Stop.Interp):
    ReturnsInHanded {} Tryz.checked os 8 .any ((OpenSpec.ofChange Rows.codeTurnedSpec).preRow enc Tryz.prog Tryz.f8 Rows.codeTurnedRow.domain false Rows.codeTurnedRow.laid) (((OpenSpec.ofChange Rows.codeTurnedSpec).at F).post enc Tryz.prog Tryz.f8 false true false false):=by
  obtain⟨places,hx⟩:=reads os enc
  refine returnsInHanded_of_row (C:=Tryz.checked) (s:=OpenSpec.ofChange Rows.codeTurnedSpec) vl.own started (by kernel_rfl) Tryz.func8
    (witness_row_atRef (enc:=enc) (C:=Tryz.checked) false (World.doorLaid Tryz.prog 400 os) #[.string ⟨#[]⟩,.int .i64 0,.int .i64 0] rfl (by kernel_rfl) (by kernel_rfl) (by kernel_rfl)
      (OpenSpec.preRow_of_cond 8 hx (by kernel_rfl) (λk hk=>by cases hk) (by kernel_rfl) (Gy os))) ?_
  intro W base args ds gs before hval hW _ _ hsz hL _ _
  exact Gx H enc W base args ds gs before hval hW hsz hL
theorem kA:Tryz.prog.inPlace 8=Rows.codeTurnedRow.inPlace:=by kernel_rfl
theorem kB:Tryz.prog.unfollowed 8=Rows.codeTurnedRow.unfollowed:=by kernel_rfl
theorem kC:Tryz.prog.recurses 8=Rows.codeTurnedRow.recurses:=by kernel_rfl
theorem kD:Tryz.prog.varsNamed 8=Rows.codeTurnedRow.named:=by kernel_rfl
theorem kG:namedTie Tryz.prog Rows.codeTurnedRow.named (OpenSpec.ofChange Rows.codeTurnedSpec).bare.vars=true:=by kernel_rfl
theorem closed:joinedFacts Tryz.prog 8 Tryz.f8 (OpenSpec.ofChange Rows.codeTurnedSpec).bare Rows.codeTurnedRow=true:=by
  unfold joinedFacts
  rw[kA,kB,kC,kD,kG,cd.kE,cd.kF,cd.kH,cd.kI,cd.kJ,cd.kK,cd.kL,cd.kM,cd.kN]
  kernel_rfl
theorem named:Tryz.pinned.checked.prog.funcNamed Rows.codeTurnedRow.func=some 8:=by kernel_rfl
theorem VG:Tryz.f8.isInstance Tryz.pinned.checked.prog Rows.codeTurnedRow.origin Rows.codeTurnedRow.targs:=of_decide_eq_true (by kernel_rfl)
theorem wrap:Tryz.f8.isWrapper Tryz.pinned.checked.prog Rows.codeTurnedRow.wrapper Rows.codeTurnedRow.mainSum:=by unfold Func.isWrapper;first|(rw[if_pos (by decide+kernel)];kernel_rfl)|(rw[if_neg (by decide+kernel)];exact⟨rfl,rfl⟩)
theorem closed2:joinedFacts Tryz.pinned.checked.prog 8 Tryz.f8 (OpenSpec.ofChange Rows.codeTurnedSpec).bare Rows.codeTurnedRow=true:=by
  rw[show Tryz.pinned.checked.prog=Tryz.prog from rfl]
  exact closed
theorem said:Rows.CodeTurnedSaid:=
  OpenClaim.holds_of_cond 8 Tryz.f8 rfl rfl rfl rfl rfl rfl rfl ⟨rfl,rfl,rfl,rfl,rfl⟩ rfl rfl rfl rfl rfl named Tryz.func8 closed2 VG wrap
    (λos started H enc _ F=>by rw[OpenClaim.pre_eq_preRow];exact lifted os started H enc F)
theorem plain(f:FuncId)(fn:Func)(hf:Tryz.pinned.checked.prog.funcNamed "meetwater/meetwaterlaw.CodeTurned" =some f)(hfn:Tryz.pinned.checked.prog.funcs[f]? =some fn):
    false=Tryz.pinned.checked.prog.looks []/\∀(j:Nat) t,fn.params[j]? =some t->Tryz.pinned.checked.prog.wantsStandIn t=false:=by
  obtain rfl:f=8:=Option.some.inj ((show Tryz.prog.funcNamed "meetwater/meetwaterlaw.CodeTurned" =some 8 by kernel_rfl).symm.trans hf)|>.symm
  obtain rfl:fn=Tryz.f8:=(Option.some.inj (Tryz.func8.symm.trans hfn)).symm
  refine⟨by kernel_rfl,λj t ht=>?_⟩
  rw[Tryz.params8]at ht
  have:=Array.mem_of_getElem? ht
  simp only[List.mem_toArray,List.mem_cons,List.not_mem_nil,or_false]at this
  rcases this with rfl|rfl|rfl
  · exact(show Tryz.prog.wantsStandIn 9=false by kernel_rfl)
  · exact(show Tryz.prog.wantsStandIn 3=false by kernel_rfl)
  · exact(show Tryz.prog.wantsStandIn 3=false by kernel_rfl)
theorem proved:Rows.CodeTurnedCardSaid:=
  Claim7.holds_tied_plain_at .later [] _ _ _ _ said (λ_ h=>by cases h) (by kernel_rfl) (λ_ h=>by cases h) codeTurned_row_tie rfl ⟨rfl,rfl⟩ (by kernel_rfl) rfl plain (by kernel_rfl)
#print axioms proved
end Go.Proofs.YtfkihidbnfkbaaaGreatDoor.codeTurned
