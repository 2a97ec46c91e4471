/- CodeWrites: the row of its bounded form, and that tied card: the law answers true, whatever it is handed of bulk at most 1048576. -/
import Derived.Test.YtfkihidbnfkbaaaGreatDoorCards
import Derived.Test.YtfkihidbnfkbaaaGreatDoorPv43
import Derived.Test.YtfkihidbnfkbaaaGreatDoorPv20
import Derived.Test.YtfkihidbnfkbaaaGreatDoorPv42
set_option linter.all false
set_option maxRecDepth 100000
namespace Go.Proofs.YtfkihidbnfkbaaaGreatDoor.codeWrites
open Go.ChangeShapes Go.WideShapes Go.ChangeAt Go.RowKit Go.Joins Go.Deep
open Go.ChangeMaps (open_string shut_string)
theorem Agc(s:ByteArray):∃l:List UInt8,s=⟨l.toArray⟩:=⟨s.data.toList,by cases s;simp⟩
theorem small{H:Type}{d0 d1:DataW H}{l:List (DataW H)}(hk:Rows.uptoSmall H (d0::d1::l)=true):Rows.uptoBulk d1<=1048576:=by
  have h:Rows.uptoBulkAll (d0::d1::l)<=1048576:=of_decide_eq_true hk
  simp only[Rows.uptoBulkAll]at h
  omega
theorem ZV(H:Type)(enc:TypeId×Value->H)(W:World)(base:Nat)(args:Array Value)(ds gs:List (DataW H))(before:List MemPlace)
    (hval0:∀(j:Nat) t v,Tryz.f5.params[j]? =some t->args[j]? =some v->Value.okWide Tryz.prog W .any base t v)
    (hW:DataW.Whole enc Tryz.prog Tryz.f5.params.toList Rows.codeWritesSpec.vars false W args.toList ds gs before) (hk:Rows.uptoSmall H (ds++gs)=true) (hL:laidMetH Tryz.prog cd.lays W):
    Calls Tryz.prog 5 args W λe W'=> ∃v,e= .returned v/\Rows.codeWritesSpec.post enc Tryz.prog Tryz.f5 false true false false W args v W':=by
  have hval:=hval0
  have hW':=hW
  obtain⟨p,q,hA0,hV,rfl,hfz,hnd⟩:=hW
  have hA:DataW.TrodAll enc Tryz.prog W 0 (λ_=>true) true Tryz.f5.params.toList args.toList ds p:=hA0
  rw[Tryz.params5]at hA hval
  obtain⟨v0,vs0,d0,ds0,p0,q0,hargs,rfl,rfl,h0,r0⟩:=trodAll_cons hA
  obtain⟨v1,vs1,d1,ds1,p1,q1,rfl,rfl,rfl,h1,r1⟩:=trodAll_cons r0
  obtain⟨rfl,rfl,rfl⟩:=trodAll_nil r1
  obtain rfl:args=#[v0,v1]:=by cases args;simp_all
  obtain⟨rfl,rfl⟩:=trodVars_none hV
  have k0:=h0
  have lt0:∀x∈p0,x.block<W.heap.size:=by obtain⟨m,hm⟩:=k0;exact DataW.trod_lt m _ _ _ hm
  obtain⟨pp,xx,hv0,hpa,hpw⟩:=pl.X9 (hval 0 32 v0 rfl rfl) h0
  subst hv0
  have k1:=h1
  have lt1:∀x∈p1,x.block<W.heap.size:=by obtain⟨m,hm⟩:=k1;exact DataW.trod_lt m _ _ _ hm
  obtain⟨e,y,hv1,hat,hwf,hbg,hbl,hbz⟩:=cd.Rk (hval 1 42 v1 rfl rfl) h1 (small (d0:=d0) (d1:=d1) (l:=[]) (by rw[List.append_nil]at hk;exact hk))
  subst hv1
  clear hA0 hval0
  refine(cd.SV pp xx e y W hpw hpa hat hwf (λh0=>cd.Q7 h0 hwf hbg) (λz hz=>⟨(hbz z hz).1,by have:=(hbz z hz).2.1;omega,by have:=(hbz z hz).2.2;omega⟩) (by omega) (by omega) (cd.AeR hL) (cd.Af2 hL)).mono λe W' ⟨he,bel⟩=>?_
  subst he
  exact⟨_,rfl,_,_,_,[],_,[],hW',trodAll_mk1 (shut_bool Tryz.underlying4 _),(trodAll_cons_mk (Below.trod vl.laidOut (by kernel_rfl) (of_decide_eq_true (by kernel_rfl)) k0 bel lt0) (trodAll_cons_mk (Below.trod vl.laidOut (by kernel_rfl) (of_decide_eq_true (by kernel_rfl)) k1 bel lt1) trodAll_mk0)),rfl,bel.frame _,λh=>by cases h⟩
theorem ZW(os:Os):laidMetH Tryz.prog cd.lays ((World.doorLaid Tryz.prog 400 os).forCall (λ_ _=>0) ⟨#[],#[.agg #[.int .i64 0,.int .i64 0,.int .i64 0,.int .i64 0,.int .i64 0,.int .i64 0,.slice none 0 0,.slice none 0 0,.slice none 0 0,.slice none 0 0,.bool false,.slice none 0 0,.slice none 0 0],.agg #[.int .i64 0,.slice none 0 0,.slice none 0 0,.int .i64 0,.slice none 0 0,.slice none 0 0,.int .i64 0,.int .i64 0,.int .i64 0,.slice none 0 0,.slice none 0 0]],[]⟩).memory:=
  laidMetH_of_parts3 (fuel:=8) (laidMet_of_run' 8 (by kernel_rfl) (by kernel_rfl)) (by kernel_rfl) (by kernel_rfl)
theorem reads(os:Os){H:Type}(enc:TypeId×Value->H):∃places,DataW.whole enc Tryz.prog ((World.doorLaid Tryz.prog 400 os).forCall (λ_ _=>0) ⟨#[],#[.agg #[.int .i64 0,.int .i64 0,.int .i64 0,.int .i64 0,.int .i64 0,.int .i64 0,.slice none 0 0,.slice none 0 0,.slice none 0 0,.slice none 0 0,.bool false,.slice none 0 0,.slice none 0 0],.agg #[.int .i64 0,.slice none 0 0,.slice none 0 0,.int .i64 0,.slice none 0 0,.slice none 0 0,.int .i64 0,.int .i64 0,.int .i64 0,.slice none 0 0,.slice none 0 0]],[]⟩).memory Tryz.f5.params.toList Rows.codeWritesSpec.vars false (#[.agg #[.int .i64 0,.int .i64 0,.int .i64 0,.int .i64 0,.int .i64 0,.int .i64 0,.slice none 0 0,.slice none 0 0,.slice none 0 0,.slice none 0 0,.bool false,.slice none 0 0,.slice none 0 0],.agg #[.int .i64 0,.slice none 0 0,.slice none 0 0,.int .i64 0,.slice none 0 0,.slice none 0 0,.int .i64 0,.int .i64 0,.int .i64 0,.slice none 0 0,.slice none 0 0]]:Array Value).toList 8=some ([.agg [.lit (.int .i64 0),.lit (.int .i64 0),.lit (.int .i64 0),.lit (.int .i64 0),.lit (.int .i64 0),.lit (.int .i64 0),.nil,.nil,.nil,.nil,.lit (.bool false),.nil,.nil],.agg [.agg [.agg [.lit (.int .i64 0),.nil,.nil],.agg [.lit (.int .i64 0),.nil,.nil],.lit (.int .i64 0),.lit (.int .i64 0),.lit (.int .i64 0)],.nil,.nil]],[],places):=
  ⟨[],by kernel_rfl⟩
theorem lifted(os:Os)(started:os.Started)(H:Type)(enc:TypeId×Value->H)(F:Stop.Interp):
    ReturnsInHanded {} Tryz.checked os 5 .any ((Rows.OpenSpec.upto Rows.codeWritesSpec).preRow enc Tryz.prog Tryz.f5 Rows.codeWritesUptoRow.domain false Rows.codeWritesUptoRow.laid) (((Rows.OpenSpec.upto Rows.codeWritesSpec).at F).post enc Tryz.prog Tryz.f5 false true false false):=by
  obtain⟨places,hx⟩:=reads os enc
  refine returnsInHanded_of_row (C:=Tryz.checked) (s:=Rows.OpenSpec.upto Rows.codeWritesSpec) vl.own started (by kernel_rfl) Tryz.func5
    (witness_row_atRef (enc:=enc) (C:=Tryz.checked) false (World.doorLaid Tryz.prog 400 os) #[.agg #[.int .i64 0,.int .i64 0,.int .i64 0,.int .i64 0,.int .i64 0,.int .i64 0,.slice none 0 0,.slice none 0 0,.slice none 0 0,.slice none 0 0,.bool false,.slice none 0 0,.slice none 0 0],.agg #[.int .i64 0,.slice none 0 0,.slice none 0 0,.int .i64 0,.slice none 0 0,.slice none 0 0,.int .i64 0,.int .i64 0,.int .i64 0,.slice none 0 0,.slice none 0 0]] rfl (by kernel_rfl) (by kernel_rfl) (by kernel_rfl)
      (OpenSpec.preRow_of_cond 8 hx (by kernel_rfl) (λk hk=>by cases hk;kernel_rfl) (by kernel_rfl) (ZW os))) ?_
  intro W base args ds gs before hval hW _ hcond hsz hL _ _
  exact ZV H enc W base args ds gs before hval hW (hcond _ rfl) hL
theorem kA:Tryz.prog.inPlace 5=Rows.codeWritesUptoRow.inPlace:=by kernel_rfl
theorem kB:Tryz.prog.unfollowed 5=Rows.codeWritesUptoRow.unfollowed:=by kernel_rfl
theorem kC:Tryz.prog.recurses 5=Rows.codeWritesUptoRow.recurses:=by kernel_rfl
theorem kD:Tryz.prog.varsNamed 5=Rows.codeWritesUptoRow.named:=by kernel_rfl
theorem kG:namedTie Tryz.prog Rows.codeWritesUptoRow.named (Rows.OpenSpec.upto Rows.codeWritesSpec).bare.vars=true:=by kernel_rfl
theorem closed:joinedFacts Tryz.prog 5 Tryz.f5 (Rows.OpenSpec.upto Rows.codeWritesSpec).bare Rows.codeWritesUptoRow=true:=by
  unfold joinedFacts
  rw[kA,kB,kC,kD,kG,cd.kE,cd.kF,cd.kH,cd.kI,cd.kJ,cd.kK,cd.kL,cd.kM,cd.kN]
  kernel_rfl
theorem named:Tryz.pinned.checked.prog.funcNamed Rows.codeWritesUptoRow.func=some 5:=by kernel_rfl
theorem inst:Tryz.f5.isInstance Tryz.pinned.checked.prog Rows.codeWritesUptoRow.origin Rows.codeWritesUptoRow.targs:=of_decide_eq_true (by kernel_rfl)
theorem wrap:Tryz.f5.isWrapper Tryz.pinned.checked.prog Rows.codeWritesUptoRow.wrapper Rows.codeWritesUptoRow.mainSum:=by unfold Func.isWrapper;first|(rw[if_pos (by decide+kernel)];kernel_rfl)|(rw[if_neg (by decide+kernel)];exact⟨rfl,rfl⟩)
theorem closed2:joinedFacts Tryz.pinned.checked.prog 5 Tryz.f5 (Rows.OpenSpec.upto Rows.codeWritesSpec).bare Rows.codeWritesUptoRow=true:=by
  rw[show Tryz.pinned.checked.prog=Tryz.prog from rfl]
  exact closed
theorem said:Rows.CodeWritesUptoSaid:=
  OpenClaim.holds_of_cond 5 Tryz.f5 rfl rfl rfl rfl rfl rfl rfl ⟨rfl,rfl,rfl,rfl,rfl⟩ rfl rfl rfl rfl rfl named Tryz.func5 closed2 inst wrap
    (λos started H enc _ F=>by rw[OpenClaim.pre_eq_preRow];exact lifted os started H enc F)
theorem plain(f:FuncId)(fn:Func)(hf:Tryz.pinned.checked.prog.funcNamed "meetwater/meetwaterlaw.CodeWrites" =some f)(hfn:Tryz.pinned.checked.prog.funcs[f]? =some fn):
    false=Tryz.pinned.checked.prog.looks []/\∀(j:Nat) t,fn.params[j]? =some t->Tryz.pinned.checked.prog.wantsStandIn t=false:=by
  obtain rfl:f=5:=Option.some.inj ((show Tryz.prog.funcNamed "meetwater/meetwaterlaw.CodeWrites" =some 5 by kernel_rfl).symm.trans hf)|>.symm
  obtain rfl:fn=Tryz.f5:=(Option.some.inj (Tryz.func5.symm.trans hfn)).symm
  refine⟨by kernel_rfl,λj t ht=>?_⟩
  rw[Tryz.params5]at ht
  have:=Array.mem_of_getElem? ht
  simp only[List.mem_toArray,List.mem_cons,List.not_mem_nil,or_false]at this
  rcases this with rfl|rfl
  · exact(show Tryz.prog.wantsStandIn 32=false by kernel_rfl)
  · exact(show Tryz.prog.wantsStandIn 42=false by kernel_rfl)
theorem proved:Rows.CodeWritesUptoCardSaid:=
  Claim7.holds_tied_plain_at .later [] _ _ _ _ said (λ_ h=>by cases h) (by kernel_rfl) (λ_ h=>by cases h) codeWritesUpto_row_tie rfl ⟨rfl,rfl⟩ (by kernel_rfl) rfl plain (by kernel_rfl)
#print axioms proved
end Go.Proofs.YtfkihidbnfkbaaaGreatDoor.codeWrites
