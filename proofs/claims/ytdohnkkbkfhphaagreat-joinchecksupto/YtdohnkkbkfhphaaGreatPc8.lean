import Derived.Test.YtdohnkkbkfhphaaGreatPc7
set_option linter.all false
set_option maxHeartbeats 8000000
set_option maxRecDepth 100000
namespace Go.Proofs.YtdohnkkbkfhphaaGreat
open Go.Proofs.Tryz
namespace bf
open Go.ChangeShapes Go.WideShapes Go.ChangeAt Go.RowKit
variable {W : World} {M : Nat}
abbrev Plc:=ByteArray×Int×Int
def B5(p:Plc):Value:=.agg #[.string p.1,.int .i64 p.2.1,.int .i64 p.2.2]
theorem bytes_beq(a b:ByteArray):(a.toList==b.toList)=decide (a=b):=by
 by_cases h:a=b
 ·subst h;simp
 ·rw[decide_eq_false h,beq_eq_false_iff_ne]
  intro e
  exact h (ByteArray.ext (Array.ext' (by rwa[Lib.toList_data,Lib.toList_data]at e)))
theorem Q9(a b:Plc)(w:World):(Op.equal 232 (B5 a) (B5 b)).run Tryz.prog w= .ok (decide (a=b)) w:=by
 obtain⟨k1,t1,s1⟩:=a
 obtain⟨k2,t2,s2⟩:=b
 show(Op.equalIn 10000 232 (B5 (k1,t1,s1)) (B5 (k2,t2,s2))).run Tryz.prog w=_
 unfold B5
 have h:(binOp .eql 232 (.agg #[.string k1,.int .i64 t1,.int .i64 s1]) (.agg #[.string k2,.int .i64 t2,.int .i64 s2])).run Tryz.prog w= .ok (.bool (decide ((k1,t1,s1)=(k2,t2,s2)))) w:=by
  by_cases h1:k1.toList=k2.toList
  ·have e1:k1=k2:=by have:=bytes_beq k1 k2;rw[h1]at this;simpa using this.symm
   subst e1
   by_cases h2:t1=t2
   ·subst h2
    by_cases h3:s1=s2
    ·subst h3;go_simp
    ·have h3':(s1==s2)=false:=by simpa using h3
     go_simp
   ·have h2':(t1==t2)=false:=by simpa using h2
    go_simp
  ·have e1:k1≠k2:=fun e=>h1 (by rw[e])
   go_simp
 rw[run_eql_struct]at h
 cases hh:(Op.equalIn 10000 232 (.agg #[.string k1,.int .i64 t1,.int .i64 s1]) (.agg #[.string k2,.int .i64 t2,.int .i64 s2])).run Tryz.prog w with
 |ok b w'=>
  rw[hh]at h
  simp only[Result.andThen]at h
  injection h with h1 h2
  injection h1 with h1
  rw[h1,h2]
 |_=>rw[hh]at h;simp[Result.andThen]at h
structure wfP(a:Plc):Prop where
 key:a.1.size<=maxLen
 time: -9223372036854775808<=a.2.1/\a.2.1<=9223372036854775807
 seq: -9223372036854775808<=a.2.2/\a.2.2<=9223372036854775807
theorem Lr{n:Int}(h: -9223372036854775808<=n/\n<=9223372036854775807):(Lit.int .i64 n).wf=true:=by
 show(decide (IntKind.i64.min<=n)&&decide (n<=IntKind.i64.max))=true
 have e1:IntKind.i64.min= -9223372036854775808:=by decide
 have e2:IntKind.i64.max=9223372036854775807:=by decide
 rw[e1,e2,decide_eq_true h.1,decide_eq_true h.2];rfl
theorem QA(a b c:Value):Tryz.prog.keyLits 3 232 [a,b,c]=([Tryz.prog.keyLits 2 9 [a],Tryz.prog.keyLits 2 3 [b],Tryz.prog.keyLits 2 3 [c]].mapM id).map List.flatten:=by kernel_rfl
theorem VB(k:ByteArray)(h:k.size<=maxLen):Tryz.prog.keyLits 2 9 [.string k]=some [.string k.data.toList]:=by
 have e:Tryz.prog.keyLits 2 9 [.string k]=if k.size<=maxLen then some [.string k.data.toList]else none:=by
  unfold Program.keyLits;rw[underlying9]
 rw[e,if_pos h]
theorem OZ(n:Int)(h:(Lit.int .i64 n).wf=true):Tryz.prog.keyLits 2 3 [.int .i64 n]=some [.int .i64 n]:=by
 have e:Tryz.prog.keyLits 2 3 [.int .i64 n]=if IntKind.i64=IntKind.i64/\(Lit.int .i64 n).wf=true then some [.int .i64 n]else none:=by
  unfold Program.keyLits;rw[underlying3]
 rw[e,if_pos ⟨rfl,h⟩]
theorem Gt(em:Bool)(a:Plc)(w:World)(h:wfP a):(Instr.checkKey em 10000 232 (B5 a)).run Tryz.prog w= .ok () w:=by
 have:=run_checkKey_deep (P:=Tryz.prog) em 9997 3 232 (by kernel_rfl) w 3 (B5 a) [.string a.1.data.toList,.int .i64 a.2.1,.int .i64 a.2.2] (by kernel_rfl) (by
  show Tryz.prog.keyLits 3 232 [.string a.1,.int .i64 a.2.1,.int .i64 a.2.2]=_
  rw[QA,VB _ h.key,OZ _ (Lr h.time),OZ _ (Lr h.seq)]
  rfl)
 exact this
section
variable {p : Plc} {w : World}
theorem IX:∀(es:List MapEntry) (i:Nat),(∀e∈es,∃q,e.key=B5 q/\q≠p)->(Instr.findAsking 232 (B5 p) es i).run Tryz.prog w= .ok none w
 |[],i,_=>by simp[Instr.findAsking]
 |e::es,i,h=>by
  obtain⟨q,hq,hne⟩:=h e (List.mem_cons_self ..)
  have ih:=IX es (i+1) (fun x hx=>h x (List.mem_cons_of_mem _ hx))
  have hd:decide (p=q)=false:=decide_eq_false (fun h=>hne h.symm)
  simp only[Instr.findAsking,Sem.run_bind,hq,Q9,Result.andThen_ok,hd,Bool.false_eq_true,if_false]
  exact ih
theorem IY{e:MapEntry}(he:e.key=B5 p)(B:List MapEntry):∀(A:List MapEntry) (i:Nat),(∀e∈A,∃q,e.key=B5 q/\q≠p)->(Instr.findAsking 232 (B5 p) (A++e::B) i).run Tryz.prog w= .ok (some (i+A.length,e.val)) w
 |[],i,_=>by
  simp only[List.nil_append,Instr.findAsking,Sem.run_bind,he,Q9,Result.andThen_ok,decide_true,if_true]
  simp
 |x::A,i,h=>by
  obtain⟨q,hq,hne⟩:=h x (List.mem_cons_self ..)
  have ih:=IY he B A (i+1) (fun x hx=>h x (List.mem_cons_of_mem _ hx))
  have hd:decide (p=q)=false:=decide_eq_false (fun h=>hne h.symm)
  simp only[List.cons_append,Instr.findAsking,Sem.run_bind,hq,Q9,Result.andThen_ok,hd,Bool.false_eq_true,if_false]
  rw[ih,List.length_cons]
  congr 3
  omega
theorem Ip(es:List MapEntry):(Instr.findKey 232 (B5 p) es).run Tryz.prog w=(Instr.findAsking 232 (B5 p) es 0).run Tryz.prog w:=by
 unfold Instr.findKey
 simp only[Sem.run_bind,run_underlying underlying232,Result.andThen_ok]
 cases es with
 |nil=>simp[Instr.findNow,Instr.findAsking]
 |cons e es=>
  have h:∀fs,Instr.findNow (.struct fs) (B5 p) (e::es) 0=none:=fun fs=>by
   simp[Instr.findNow,Instr.sameNow]
  rw[h]
variable {M clock : Nat} {es : Array MapEntry}
theorem Iq(h:w.heap[M]? =some (.map es clock)):(getObj M).run Tryz.prog w= .ok (.map es clock) w:=by simp[getObj,Sem.run,h]
theorem N2(o':Obj)(h:w.heap[M]? =some (.map es clock)):(setObj M o').run Tryz.prog w= .ok () (w.putObj M o'):=by simp[setObj,Sem.run,h,World.putObj]
theorem Yi(w:World):(zeroValue 3).run Tryz.prog w= .ok (.int .i64 0) w:=Tryz.zeroValue3 w
theorem Ty(hm:w.heap[M]? =some (.map es clock))(hp:wfP p)(hn:∀e∈es.toList,∃q,e.key=B5 q/\q≠p):
 (Instr.lookup 230 (.map (some M)) (B5 p) false).run Tryz.prog w= .ok (.int .i64 0) w:=by
 unfold Instr.lookup
 simp only[Sem.run_bind,run_underlying underlying230,Result.andThen_ok,Iq hm,Sem.run_pure,Gt _ p w hp,Ip,IX _ _ hn,Yi,Bool.false_eq_true,if_false]
theorem Fi{A B:List MapEntry}{e:MapEntry}(hm:w.heap[M]? =some (.map (A++e::B).toArray clock))(hp:wfP p)(hn:∀e∈A,∃q,e.key=B5 q/\q≠p)(he:e.key=B5 p):
 (Instr.lookup 230 (.map (some M)) (B5 p) false).run Tryz.prog w= .ok e.val w:=by
 unfold Instr.lookup
 simp only[Sem.run_bind,run_underlying underlying230,Result.andThen_ok,Iq hm,Sem.run_pure,Gt _ p w hp,Ip,IY he B A 0 hn,Bool.false_eq_true,if_false]
theorem QB(hm:w.heap[M]? =some (.map es clock))(hp:wfP p)(hn:∀e∈es.toList,∃q,e.key=B5 q/\q≠p):
 (Instr.mapEntry 230 (.map (some M)) (B5 p)).run Tryz.prog w= .ok (.tuple #[.int .i64 0,.int .i64 clock]) (w.putObj M (.map (es.push ⟨B5 p,.int .i64 0,clock⟩) (clock+1))):=by
 unfold Instr.mapEntry
 simp only[Sem.run_bind,run_underlying underlying230,Result.andThen_ok,Iq hm,Sem.run_pure,Gt _ p w hp,Ip,IX _ _ hn,Yi,N2 _ hm,goInt]
theorem Tz:(Instr.sameBits 10000 (B5 p) (B5 p))=true:=by
 have hb:(p.1==p.1)=true:=by
  obtain⟨⟨⟨x⟩⟩,t⟩:=p
  show((⟨x⟩:Array UInt8)==⟨x⟩)=true
  simp
 unfold B5
 simp[Instr.sameBits,hb]
theorem QC{A B:List MapEntry}{e:MapEntry}(hm:w.heap[M]? =some (.map (A++e::B).toArray clock))(hp:wfP p)(hn:∀e∈A,∃q,e.key=B5 q/\q≠p)(he:e.key=B5 p):
 (Instr.mapEntry 230 (.map (some M)) (B5 p)).run Tryz.prog w= .ok (.tuple #[e.val,.int .i64 e.born]) (w.putObj M (.map (A++e::B).toArray clock)):=by
 have h1:(A++e::B).toArray[0+A.length]? =some e:=by simp
 have h2:((A++e::B).toArray.modify (0+A.length) fun x=>{x with key:=B5 p})=(A++e::B).toArray:=by
  refine Array.ext (by simp) (fun i h3 h4=>?_)
  rw[Array.getElem_modify]
  split
  ·rename_i h5
   subst h5
   have:(A++e::B).toArray[0+A.length]=e:=by simp
   rw[this,<-he]
  ·rfl
 unfold Instr.mapEntry
 simp only[Sem.run_bind,run_underlying underlying230,Result.andThen_ok,Iq hm,Sem.run_pure,Gt _ p w hp,Ip,IY he B A 0 hn,h1,Option.map_some,Option.getD_some,he,Instr.keyThatStays,Tz,if_true,h2,N2 _ hm,goInt]
theorem Pa{i:Nat}{v:Value}{born:Int}(hm:w.heap[M]? =some (.map es clock))(hi:es.findIdx? (fun e=>(e.born:Int)==born)=some i):
 (Instr.entryStore 230 (.map (some M)) (.int .i64 born) v).run Tryz.prog w= .ok () (w.putObj M (.map (es.modify i fun e=>{e with val:=v}) clock)):=by
 unfold Instr.entryStore
 simp only[Sem.run_bind,Result.andThen_ok,Iq hm,Sem.run_pure,asInt,asIntOf,hi,N2 _ hm]
end
def Bq:Nat->List Plc->List MapEntry
 |_,[]=>[]
 |i,p::ps=>⟨B5 p,.int .i64 1,i⟩::Bq (i+1) ps
theorem GW(i:Nat)(ps qs:List Plc):Bq i (ps++qs)=Bq i ps++Bq (i+ps.length) qs:=by
 induction ps generalizing i with
 |nil=>rfl
 |cons p ps ih=>rw[List.cons_append,Bq,ih,Bq,List.length_cons,show i+(ps.length+1)=i+1+ps.length by omega];rfl
theorem QD(i:Nat)(ps:List Plc):(Bq i ps).length=ps.length:=by
 induction ps generalizing i with
 |nil=>rfl
 |cons p ps ih=>rw[Bq,List.length_cons,ih,List.length_cons]
theorem Ez{i:Nat}{ps:List Plc}{e:MapEntry}(h:e∈Bq i ps):(∃q,q∈ps/\e.key=B5 q)/\i<=e.born/\e.born<i+ps.length:=by
 induction ps generalizing i with
 |nil=>cases h
 |cons p ps ih=>
  rw[Bq]at h
  rcases List.mem_cons.1 h with rfl|h
  ·exact⟨⟨p,List.mem_cons_self ..,rfl⟩,Nat.le_refl _,by simp⟩
  ·obtain⟨⟨q,hq,hk⟩,h1,h2⟩:=ih h
   exact⟨⟨q,List.mem_cons_of_mem _ hq,hk⟩,by omega,by rw[List.length_cons];omega⟩
def CE(W:World)(M:Nat)(ps:List Plc):Prop:=W.heap[M]? =some (.map (Bq 0 ps).toArray ps.length)
theorem Fj{ps:List Plc}(h:CE W M ps):M<W.heap.size:=(Array.getElem?_eq_some_iff.1 h).1
theorem find_born{A B:List MapEntry}{e:MapEntry}{n:Nat}(hA:∀x∈A,x.born≠n)(he:e.born=n):(A++e::B).toArray.findIdx? (fun x=>(x.born:Int)==(n:Int))=some A.length:=by
 rw[List.findIdx?_toArray,List.findIdx?_append]
 have h1:A.findIdx? (fun x=>(x.born:Int)==(n:Int))=none:=by
  rw[List.findIdx?_eq_none_iff]
  intro x hx
  have:=hA x hx
  rw[beq_eq_false_iff_ne];omega
 rw[h1]
 simp[List.findIdx?_cons,he]
theorem MA{A B:List MapEntry}{e:MapEntry}(f:MapEntry->MapEntry):(A++e::B).toArray.modify A.length f=(A++f e::B).toArray:=by
 refine Array.ext (by simp) (fun i h3 h4=>?_)
 rw[Array.getElem_modify]
 simp only[List.getElem_toArray]
 split
 ·rename_i h5
  subst h5
  simp
 ·rename_i h5
  rcases Nat.lt_or_ge i A.length with h|h
  ·rw[List.getElem_append_left h,List.getElem_append_left h]
  ·rw[List.getElem_append_right h,List.getElem_append_right h]
   have:i - A.length=(i - A.length - 1)+1:=by omega
   simp only[List.getElem_cons]
   rw[dif_neg (by omega),dif_neg (by omega)]
theorem Pb{ps:List Plc}{p:Plc}(h:p∈ps):∃A B,ps=A++p::B/\p ∉ A:=by
 induction ps with
 |nil=>cases h
 |cons q ps ih=>
  by_cases e:q=p
  ·subst e;exact⟨[],ps,rfl,by simp⟩
  ·obtain⟨A,B,h1,h2⟩:=ih ((List.mem_cons.1 h).resolve_left (fun k=>e k.symm))
   exact⟨q::A,B,by rw[h1];rfl,fun k=>(List.mem_cons.1 k).elim (fun k=>e k.symm) h2⟩
theorem X4{ps:List Plc}{p:Plc}(hm:CE W M ps)(hp:wfP p)(hn:p ∉ ps):∃W3 W4,
 (Instr.lookup 230 (.map (some M)) (B5 p) false).run Tryz.prog W= .ok (.int .i64 0) W/\
 (Instr.mapEntry 230 (.map (some M)) (B5 p)).run Tryz.prog W= .ok (.tuple #[.int .i64 0,.int .i64 ps.length]) W3/\
 (Instr.lookup 230 (.map (some M)) (B5 p) false).run Tryz.prog W3= .ok (.int .i64 0) W3/\
 (Instr.entryStore 230 (.map (some M)) (.int .i64 ps.length) (.int .i64 1)).run Tryz.prog W3= .ok () W4/\
 CE W4 M (ps++[p])/\W.grownBy W4 (some M):=by
 have hno:∀e∈Bq 0 ps,∃q,e.key=B5 q/\q≠p:=fun e he=>by
  obtain⟨⟨q,hq,hk⟩,_⟩:=Ez he
  exact⟨q,hk,fun h=>hn (by rw[<-h];exact hq)⟩
 have h1:=Ty hm hp (by simpa using hno)
 have h2:=QB hm hp (by simpa using hno)
 obtain⟨W3,hW3⟩:=nM (W.putObj M (.map ((Bq 0 ps).toArray.push ⟨B5 p,.int .i64 0,ps.length⟩) (ps.length+1)))
 rw[hW3]at h2
 have hm3:W3.heap[M]? =some (.map (Bq 0 ps++(⟨B5 p,.int .i64 0,ps.length⟩:MapEntry)::[]).toArray (ps.length+1)):=by
  rw[<-hW3,World.putObj_heap_same (Fj hm)];simp
 have h3:=Fi hm3 hp hno rfl
 have h4:=Pa (v:=.int .i64 1) hm3 (find_born (n:=ps.length) (fun x hx=>by have:=(Ez hx).2.2;omega) rfl)
 rw[MA]at h4
 obtain⟨W4,hW4⟩:=nM (W3.putObj M (.map (Bq 0 ps++{(⟨B5 p,.int .i64 0,ps.length⟩:MapEntry)with val:=.int .i64 1}::[]).toArray (ps.length+1)))
 rw[hW4]at h4
 refine⟨W3,W4,h1,h2,h3,h4,?_,?_⟩
 ·show W4.heap[M]? =_
  rw[<-hW4,World.putObj_heap_same (Array.getElem?_eq_some_iff.1 hm3).1,GW,lAp]
  simp[Bq]
 ·rw[<-hW4,<-hW3]
  exact⟨rfl,rfl,rfl,by simp,fun k _ hk=>(World.putObj_heap_other (fun e=>hk (by rw[e]))).trans (World.putObj_heap_other (fun e=>hk (by rw[e])))⟩
theorem X5{ps:List Plc}{p:Plc}(hm:CE W M ps)(hp:wfP p)(hn:p∈ps):∃(b:Nat) (W3 W4:World),
 (Instr.lookup 230 (.map (some M)) (B5 p) false).run Tryz.prog W= .ok (.int .i64 1) W/\
 (Instr.mapEntry 230 (.map (some M)) (B5 p)).run Tryz.prog W= .ok (.tuple #[.int .i64 1,.int .i64 b]) W3/\
 (Instr.lookup 230 (.map (some M)) (B5 p) false).run Tryz.prog W3= .ok (.int .i64 1) W3/\
 (Instr.entryStore 230 (.map (some M)) (.int .i64 b) (.int .i64 2)).run Tryz.prog W3= .ok () W4/\
 (∀W5:World,W5.heap[M]? =W4.heap[M]? ->(Instr.lookup 230 (.map (some M)) (B5 p) false).run Tryz.prog W5= .ok (.int .i64 2) W5)/\W.grownBy W4 (some M):=by
 obtain⟨A,B,rfl,hA⟩:∃A B,ps=A++p::B/\p ∉ A:=Pb hn
 have hm':W.heap[M]? =some (.map (Bq 0 A++(⟨B5 p,.int .i64 1,A.length⟩:MapEntry)::Bq (A.length+1) B).toArray (A++p::B).length):=by
  have:=hm
  unfold CE at this
  rw[GW,Nat.zero_add,Bq]at this
  exact this
 have hno:∀e∈Bq 0 A,∃q,e.key=B5 q/\q≠p:=fun e he=>by
  obtain⟨⟨q,hq,hk⟩,_⟩:=Ez he
  exact⟨q,hk,fun h=>hA (by rw[<-h];exact hq)⟩
 have h1:=Fi hm' hp hno rfl
 have h2:=QC hm' hp hno rfl
 obtain⟨W3,hW3⟩:=nM (W.putObj M (.map (Bq 0 A++(⟨B5 p,.int .i64 1,A.length⟩:MapEntry)::Bq (A.length+1) B).toArray (A++p::B).length))
 rw[hW3]at h2
 have hm3:W3.heap[M]? =some (.map (Bq 0 A++(⟨B5 p,.int .i64 1,A.length⟩:MapEntry)::Bq (A.length+1) B).toArray (A++p::B).length):=by
  rw[<-hW3,World.putObj_heap_same (Fj hm)]
 have h3:=Fi hm3 hp hno rfl
 have hl:(Bq 0 A).length=A.length:=QD 0 A
 have h4:=Pa (v:=.int .i64 2) hm3 (find_born (n:=A.length) (fun x hx=>by have:=(Ez hx).2.2;omega) rfl)
 rw[MA]at h4
 obtain⟨W4,hW4⟩:=nM (W3.putObj M (.map (Bq 0 A++{(⟨B5 p,.int .i64 1,A.length⟩:MapEntry)with val:=.int .i64 2}::Bq (A.length+1) B).toArray (A++p::B).length))
 rw[hW4]at h4
 refine⟨A.length,W3,W4,h1,h2,h3,h4,fun W5 h5=>?_,?_⟩
 ·have hm5:W5.heap[M]? =some (.map (Bq 0 A++{(⟨B5 p,.int .i64 1,A.length⟩:MapEntry)with val:=.int .i64 2}::Bq (A.length+1) B).toArray (A++p::B).length):=by
   rw[h5,<-hW4,World.putObj_heap_same (Array.getElem?_eq_some_iff.1 hm3).1]
  exact Fi hm5 hp hno rfl
 ·rw[<-hW4,<-hW3]
  exact⟨rfl,rfl,rfl,by simp,fun k _ hk=>(World.putObj_heap_other (fun e=>hk (by rw[e]))).trans (World.putObj_heap_other (fun e=>hk (by rw[e])))⟩
theorem VC{ps:List Plc}{p:Plc}(hm:CE W M (ps++[p]))(hp:wfP p)(hn:p ∉ ps):(Instr.lookup 230 (.map (some M)) (B5 p) false).run Tryz.prog W= .ok (.int .i64 1) W:=by
 have hno:∀e∈Bq 0 ps,∃q,e.key=B5 q/\q≠p:=fun e he=>by
  obtain⟨⟨q,hq,hk⟩,_⟩:=Ez he
  exact⟨q,hk,fun h=>hn (by rw[<-h];exact hq)⟩
 unfold CE at hm
 rw[GW]at hm
 exact Fi hm hp hno rfl
end bf
namespace bf
open Go.ChangeShapes Go.WideShapes Go.ChangeAt Go.RowKit Go.Shelf
open vl
attribute [local go_sem] Oper.semAt_some
variable {b : Nat} {W W' : World}
def Ay(x:Ent):Plc:=(x.key,x.time,x.seq)
theorem IZ{a b:Ent}:Ay a=Ay b↔CZ a b:=by
 unfold Ay CZ
 simp[Prod.mk.injEq]
def hasB(l:List Ent)(p:Plc):Bool:=l.any fun x=>decide (Ay x=p)
def EC:Nat->Obj->Prop:=fun _ _=>True
theorem Ae:names EC W b:=fun _ _=>trivial
theorem BM{n:Nat}(h:Below n W W')(hn:W.heap.size<=n):Ao EC W W':=fun b o h1 _ _=>(h.block b (by have:=(Array.getElem?_eq_some_iff.1 h1).1;omega)).trans h1
theorem Fk{w V:World}{b:Buf}{x:BX}(h:bufAt w b x)(hb:Bwz w V)(B:Nat)(Pr:Nat->Obj->Prop)(h0:V.cell? ⟨B,0,none⟩=some (.int .i64 b.lim))(h1:V.cell? ⟨B,1,none⟩=some (hdV x.m.1))(h2:V.cell? ⟨B,2,none⟩=some (.slice x.ra x.rs.length x.rc))
 (hS:names Pr V B) (hlow:∀b,b<w.heap.size->names Pr V b)
 (hP1:∀b c f,V.heap.size<=b->Pr b (.cells c 29 f)) (hP2:∀b c f,V.heap.size<=b->Pr b (.cells c 110 f)):
 Wo Tryz.prog 161 #[.pointer (some ⟨B,0,none⟩)] ((ems (x.m::x.rs)).map fun e=>#[e.val]) (Ao Pr) V:=
 Uz B b.lim x.ra x.rc x.m x.rs Pr V (Y2 (Ai h hb) h0 h1 h2) hS (fun a ha hx=>hlow _ (Yc h ha hx)) (fun p hp a h0 ha=>by
  obtain⟨b',o,e,y,_⟩:=h.ems p hp 0 h0
  rw[ha]at e;cases e
  exact hlow _ (bLt _ _ y)) hP1 hP2
theorem B8{B:Nat}(h:Bwz W W'):KeepsFrom B W W':=⟨h.size,fun k o _ h1 _=>(h.block k (Array.getElem?_eq_some_iff.1 h1).1).trans h1⟩
theorem Cj{o D:Nat}{v:Value}{x:Obj}(h:W.cell? ⟨b,o,none⟩=some v)(hD:W.heap[D]? =some x)(hx:x.isCells=false)(o':Obj):(W.putObj D o').cell? ⟨b,o,none⟩=some v:=
 cell_kept h (grownBy_putObj' W D o') (fun r e=>by cases e;exact⟨x,hD,hx⟩)
theorem X6(b:Buf)(x:BX)(p:Plc)(w:World)(h:bufAt w b x):
 Calls Tryz.prog 265 #[AN b x,B5 p] w fun e w'=>e= .returned (.bool (hasB (Ab b) p))/\Bwz w w':=by
 have HB:Hid (bufAt w b x):=h
 have HE:=Dg h
 have HER:Hid (ERs w (ems (x.m::x.rs)) (Ab b)):=HE
 obtain⟨L,hL⟩:=nM (Ab b)
 rw[hL]at HER⊢
 clear hL h HE
 obtain⟨R,hR⟩:=nM (hasB L p)
 have HRR:Hid (hasB L p=R):=hR
 rw[hR]
 clear hR
 obtain⟨ra,rc,⟨⟨m1,m2,m3⟩,ml⟩,rs⟩:=x
 obtain⟨lim,mem,runs⟩:=b
 obtain⟨pk,pt,ps⟩:=p
 unfold AN hdV B5
 dsimp only at HER⊢
 obtain⟨n,hn⟩:∃n,rs.length=n:=⟨_,rfl⟩
 have HN:Hid (rs.length=n):=hn
 rw[hn]
 clear hn
 refine(callsIn_wide (n:=0)).1 ?_
 refine callsIn_of_wp_marks func265 rfl trivial ?_ rfl
 simp only[ntmps265,List.size_toArray,List.length_cons,List.length_nil,Nat.reduceAdd,Nat.reduceSub,Array.replicate_succ,Array.replicate_zero,List.push_toArray,List.append_toArray,List.nil_append,List.cons_append]
 gi_wp2_with (refine⟨trivial,rfl,?_⟩;gi_at_call 113;refine(callsIn_wide.2 (Gh _ _ _ rfl rfl rfl _)).mono ?_;rintro e w' ⟨rfl,rfl⟩)
 have V0:((((w.alloc (.cells #[.int .i64 lim,.slice m1 m2 m3,.slice ra n rc] 29)).alloc (.cells #[.string pk,.int .i64 pt,.int .i64 ps] 232)).alloc (.cells #[.bool false] 4)).alloc (.cells #[.int .i64 lim,.slice m1 m2 m3,.slice ra n rc] 29)).cell? ⟨w.heap.size+1,0,none⟩=some (.string pk):=by go_simp
 have V1:((((w.alloc (.cells #[.int .i64 lim,.slice m1 m2 m3,.slice ra n rc] 29)).alloc (.cells #[.string pk,.int .i64 pt,.int .i64 ps] 232)).alloc (.cells #[.bool false] 4)).alloc (.cells #[.int .i64 lim,.slice m1 m2 m3,.slice ra n rc] 29)).cell? ⟨w.heap.size+1,1,none⟩=some (.int .i64 pt):=by go_simp
 have V2:((((w.alloc (.cells #[.int .i64 lim,.slice m1 m2 m3,.slice ra n rc] 29)).alloc (.cells #[.string pk,.int .i64 pt,.int .i64 ps] 232)).alloc (.cells #[.bool false] 4)).alloc (.cells #[.int .i64 lim,.slice m1 m2 m3,.slice ra n rc] 29)).cell? ⟨w.heap.size+1,2,none⟩=some (.int .i64 ps):=by go_simp
 have V3:((((w.alloc (.cells #[.int .i64 lim,.slice m1 m2 m3,.slice ra n rc] 29)).alloc (.cells #[.string pk,.int .i64 pt,.int .i64 ps] 232)).alloc (.cells #[.bool false] 4)).alloc (.cells #[.int .i64 lim,.slice m1 m2 m3,.slice ra n rc] 29)).cell? ⟨w.heap.size+1+1,0,none⟩=some (.bool false):=by go_simp
 have V4:((((w.alloc (.cells #[.int .i64 lim,.slice m1 m2 m3,.slice ra n rc] 29)).alloc (.cells #[.string pk,.int .i64 pt,.int .i64 ps] 232)).alloc (.cells #[.bool false] 4)).alloc (.cells #[.int .i64 lim,.slice m1 m2 m3,.slice ra n rc] 29)).frozen? ⟨w.heap.size+1+1,0,none⟩=false:=by go_simp
 have V5:((((w.alloc (.cells #[.int .i64 lim,.slice m1 m2 m3,.slice ra n rc] 29)).alloc (.cells #[.string pk,.int .i64 pt,.int .i64 ps] 232)).alloc (.cells #[.bool false] 4)).alloc (.cells #[.int .i64 lim,.slice m1 m2 m3,.slice ra n rc] 29)).cell? ⟨w.heap.size+1+1+1,0,none⟩=some (.int .i64 lim):=by go_simp
 have V6:((((w.alloc (.cells #[.int .i64 lim,.slice m1 m2 m3,.slice ra n rc] 29)).alloc (.cells #[.string pk,.int .i64 pt,.int .i64 ps] 232)).alloc (.cells #[.bool false] 4)).alloc (.cells #[.int .i64 lim,.slice m1 m2 m3,.slice ra n rc] 29)).cell? ⟨w.heap.size+1+1+1,1,none⟩=some (.slice m1 m2 m3):=by go_simp
 have V7:((((w.alloc (.cells #[.int .i64 lim,.slice m1 m2 m3,.slice ra n rc] 29)).alloc (.cells #[.string pk,.int .i64 pt,.int .i64 ps] 232)).alloc (.cells #[.bool false] 4)).alloc (.cells #[.int .i64 lim,.slice m1 m2 m3,.slice ra n rc] 29)).cell? ⟨w.heap.size+1+1+1,2,none⟩=some (.slice ra n rc):=by go_simp
 have V8:Bwz w ((((w.alloc (.cells #[.int .i64 lim,.slice m1 m2 m3,.slice ra n rc] 29)).alloc (.cells #[.string pk,.int .i64 pt,.int .i64 ps] 232)).alloc (.cells #[.bool false] 4)).alloc (.cells #[.int .i64 lim,.slice m1 m2 m3,.slice ra n rc] 29)):=by
  repeat (first|exact bR|(refine Below.alloc ?_ (by simp<;>omega) _))
 have V9:((((w.alloc (.cells #[.int .i64 lim,.slice m1 m2 m3,.slice ra n rc] 29)).alloc (.cells #[.string pk,.int .i64 pt,.int .i64 ps] 232)).alloc (.cells #[.bool false] 4)).alloc (.cells #[.int .i64 lim,.slice m1 m2 m3,.slice ra n rc] 29)).heap.size=w.heap.size+1+1+1+1:=by simp
 generalize ((((w.alloc (.cells #[.int .i64 lim,.slice m1 m2 m3,.slice ra n rc] 29)).alloc (.cells #[.string pk,.int .i64 pt,.int .i64 ps] 232)).alloc (.cells #[.bool false] 4)).alloc (.cells #[.int .i64 lim,.slice m1 m2 m3,.slice ra n rc] 29))=V at *
 have hit:=Fk HB.out V8 (w.heap.size+1+1+1) EC V5 V6 (by rw[HN.out];exact V7) Ae (fun _ _=>Ae) (fun _ _ _ _=>trivial) (fun _ _ _ _=>trivial)
 dsimp only at hit
 obtain⟨E,hE⟩:=nM (ems ((((m1,m2,m3):Hdr),ml)::rs))
 rw[hE]at hit HER
 clear hE
 refine C8 (gf:=161) (lb:=#[.pointer (some ⟨w.heap.size+1+1+1,0,none⟩)]) rfl (enters_of func161 (by kernel_rfl) rfl) hit bR (fun x hx=>by obtain⟨p,_,rfl⟩:=List.mem_map.1 hx;rfl) (fun h k=>Ao.trans h k) (fun W l o o' _ h ho=>Ao.put W l o o' h ho)
  (fun i X=>(∀j,j<i->Ay (L.getD j default)≠(pk,pt,ps))/\Ao EC V X/\X.frozen? ⟨w.heap.size+1+1,0,none⟩=false/\Bwz w X) (fun c X=>c= .ret/\true=R/\X.cell? ⟨w.heap.size+1+1,0,none⟩=some (.bool true)/\Bwz w X)
  (fun i X X' row hs hg hr=>⟨hs.1,hs.2.1.grown hg (fun r e=>(hr r e).2),(frozen_kept (hs.2.1.cell Ae V3) hg (fun r e=>(hr r e).2)).trans hs.2.2.1,Cx hs.2.2.2 nR (by omega) hg hr⟩)
  (fun c X X' row hs hg hr=>⟨hs.1,hs.2.1,cell_kept hs.2.2.1 hg (fun r e=>(hr r e).2),Cx hs.2.2.2 nR (by omega) hg hr⟩)
  ⟨fun j hj=>absurd hj (Nat.not_lt_zero j),Ao.refl _ _,V4,V8⟩
  (fun i a' X=> ∃B,a'={tmps:=#[.agg #[.int .i64 lim,.slice m1 m2 m3,.slice ra n rc],.agg #[.string pk,.int .i64 pt,.int .i64 ps],.pointer (some ⟨w.heap.size,0,none⟩),.pointer (some ⟨w.heap.size+1,0,none⟩),.pointer (some ⟨w.heap.size+1+1,0,none⟩),.pointer (some ⟨B,0,none⟩),.agg #[.int .i64 lim,.slice m1 m2 m3,.slice ra n rc],.func (.func 161) #[] #[.pointer (some ⟨w.heap.size+1+1+1,0,none⟩)],(E.getD i default).val,undef,undef,undef,undef],defers:=[]}/\X.cell? ⟨B,0,none⟩=some (.string (E.getD i default).key)/\X.cell? ⟨B,1,none⟩=some (.int .i64 (E.getD i default).time)/\X.cell? ⟨B,2,none⟩=some (.int .i64 (E.getD i default).seq)/\X.cell? ⟨B,3,none⟩=some (hdV (E.getD i default).row)/\X.cell? ⟨B,4,none⟩=some (.bool (E.getD i default).met))
  (fun i a' u X X' row hs hg hr=>by
   obtain⟨B,h1,h2,h3,h4,h5,h6⟩:=hs
   exact⟨B,h1,cell_kept h2 hg (fun r e=>(hr r e).2),cell_kept h3 hg (fun r e=>(hr r e).2),cell_kept h4 hg (fun r e=>(hr r e).2),cell_kept h5 hg (fun r e=>(hr r e).2),cell_kept h6 hg (fun r e=>(hr r e).2)⟩) ?assign ?body ?done ?stop
 case assign=>
  intro l' k x X K hx hi hK
  obtain⟨hk,hxe⟩:=List.getElem?_eq_some_iff.1 hx
  rw[lMp]at hk
  rw[List.getElem_map]at hxe
  subst hxe
  have hd:E.getD k default=E[k]:=by rw[gDe,gEe hk];rfl
  have hK2:=hK
  rw[hd]at hK2
  clear hK hd hx
  obtain⟨⟨ek,et,es,⟨r1,r2,r3⟩,em⟩,hz⟩:∃z,E[k]=z:=⟨_,rfl⟩
  rw[hz]at hK2⊢
  unfold EM.val hdV at hK2⊢
  dsimp only at hK2⊢
  obtain⟨j1,j2,j3,j4⟩:=hi
  gi_wp2
  have lX:w.heap.size+1+1<X.heap.size:=bLt _ _ (j2.cell Ae V3)
  exact hK2 _ _ ((KeepsOthers.alloc _ _).from _) (Ao.alloc _ _) ⟨j1,j2.trans (Ao.alloc _ _),by go_simp,j4.alloc j4.size _⟩ ⟨X.heap.size,rfl,by go_simp,by go_simp,by go_simp,by go_simp,by go_simp⟩
 case body=>
  intro l' i x a' X hx hl' hrec hIi hax
  obtain⟨j1,j2,j3,j4⟩:=hIi
  obtain⟨B,hax,b0,b1,b2,b3,b4⟩:=hax
  subst hax
  obtain⟨hi,_⟩:=List.getElem?_eq_some_iff.1 hx
  rw[lMp]at hi
  have hEL:=HER.out.1
  have her:=HER.out.2 i (by omega)
  have KP:Hid (∀w1,CTz 186 #[(E.getD i default).val] w1 fun r w'=>r= .returned (.agg #[.string (E.getD i default).key,.int .i64 (E.getD i default).time,.int .i64 (E.getD i default).seq])/\Bwz w1 w'):=fun w1=>FM _ w1
  have hpl:Ay (L.getD i default)=((E.getD i default).key,(E.getD i default).time,(E.getD i default).seq):=by unfold Ay;rw[her.key,her.time,her.seq]
  have HMEM:Hid (L.getD i default∈L):=by show _∈_;rw[gDe,gEe (by omega)];simp
  obtain⟨⟨ek,et,es,⟨r1,r2,r3⟩,em⟩,hz⟩:∃z,E.getD i default=z:=⟨_,rfl⟩
  rw[hz]at KP b0 b1 b2 b3 b4 hpl⊢
  unfold EM.val hdV at KP
  unfold hdV at b3
  dsimp only at KP b0 b1 b2 b3 b4 hpl
  have HPL:Hid (Ay (L.getD i default)=(ek,et,es)):=hpl
  have c0:=j2.cell Ae V0
  have c1:=j2.cell Ae V1
  have c2:=j2.cell Ae V2
  have c3:=j2.cell Ae V3
  have lX:w.heap.size+1+1<X.heap.size:=bLt _ _ c3
  have hmx:Tryz.prog.follows .mixedOrders=true:=by kernel_rfl
  clear hz hpl her hEL hx
  by_cases hE:(ek,et,es)=(pk,pt,ps)
  ·have HE:Hid (true=R):=by
    show _=_
    rw[<-HRR.out]
    exact(List.any_eq_true.2 ⟨_,HMEM.out,by rw[HPL.out];simpa using hE⟩).symm
   injection hE with e1 e23
   injection e23 with e2 e3
   subst e1 e2 e3
   gi_wp2
   gi_region_with_o (refine⟨trivial,rfl,?_⟩;gi_at_call 186;refine(CallsIn.inRound l' (callsIn_wide.2 (KP.out _))).mono ?_;rintro e w2 ⟨rfl,hb2⟩;have k0:=cLz hb2 c0;have k1:=cLz hb2 c1;have k2:=cLz hb2 c2;have k3:=cLz hb2 c3;have kf:w2.frozen? ⟨w.heap.size+1+1,0,none⟩=false:=(by rw[hb2.frozen (p:=⟨w.heap.size+1+1,0,none⟩) lX];exact j3);have hb3:Bwz X w2:=bR.drew.trans hb2)
   all_goals
    gi_wp2
    exact⟨(B8 hb3).trans ((KeepsOthers.setCell _ _ _).from _),rfl,HE.out,World.cell?_setCell_same _ _ _ k3,(j4.trans (hb3.mono j4.size)).setCell (by dsimp only;omega) _⟩
  ·have hno:((ek.toList==pk.toList)&&((et==pt)&&(es==ps)))=false:=by
    rw[bytes_beq]
    by_cases e1:ek=pk
    ·by_cases e2:et=pt
     ·have e3:es≠ps:=fun e3=>hE (by rw[e1,e2,e3])
      simp[e1,e2,e3]
     ·simp[e1,e2]
    ·simp[e1]
   have HNE:Hid (Ay (L.getD i default)≠(pk,pt,ps)):=by show _≠_;rw[HPL.out];exact hE
   by_cases t1:ek.toList=pk.toList
   ·by_cases t2:et=pt
    ·have t3:(es==ps)=false:=by
      rw[beq_eq_false_iff_ne]
      intro e3
      have e1:ek=pk:=by have:=bytes_beq ek pk;rw[t1]at this;simpa using this.symm
      exact hE (by rw[e1,t2,e3])
     subst t2
     gi_wp2
     gi_region_with_o (refine⟨trivial,rfl,?_⟩;gi_at_call 186;refine(CallsIn.inRound l' (callsIn_wide.2 (KP.out _))).mono ?_;rintro e w2 ⟨rfl,hb2⟩;have k0:=cLz hb2 c0;have k1:=cLz hb2 c1;have k2:=cLz hb2 c2;have hb3:Bwz X w2:=bR.drew.trans hb2)
     all_goals
      gi_wp2
      exact⟨B8 hb3,BM hb3 nR,fun j hj=>by
       rcases Nat.lt_succ_iff_lt_or_eq.1 hj with h|h
       ·exact j1 j h
       ·rw[h];exact HNE.out,j2.trans (BM hb3 nR),by rw[hb3.frozen (p:=⟨w.heap.size+1+1,0,none⟩) lX];exact j3,j4.trans (hb3.mono j4.size)⟩
    ·have t2':(et==pt)=false:=by simpa using t2
     gi_wp2
     gi_region_with_o (refine⟨trivial,rfl,?_⟩;gi_at_call 186;refine(CallsIn.inRound l' (callsIn_wide.2 (KP.out _))).mono ?_;rintro e w2 ⟨rfl,hb2⟩;have k0:=cLz hb2 c0;have k1:=cLz hb2 c1;have k2:=cLz hb2 c2;have hb3:Bwz X w2:=bR.drew.trans hb2)
     all_goals
      gi_wp2
      exact⟨B8 hb3,BM hb3 nR,fun j hj=>by
       rcases Nat.lt_succ_iff_lt_or_eq.1 hj with h|h
       ·exact j1 j h
       ·rw[h];exact HNE.out,j2.trans (BM hb3 nR),by rw[hb3.frozen (p:=⟨w.heap.size+1+1,0,none⟩) lX];exact j3,j4.trans (hb3.mono j4.size)⟩
   ·skip
    gi_wp2
    gi_region_with_o (refine⟨trivial,rfl,?_⟩;gi_at_call 186;refine(CallsIn.inRound l' (callsIn_wide.2 (KP.out _))).mono ?_;rintro e w2 ⟨rfl,hb2⟩;have k0:=cLz hb2 c0;have k1:=cLz hb2 c1;have k2:=cLz hb2 c2;have hb3:Bwz X w2:=bR.drew.trans hb2)
    all_goals
     gi_wp2
     exact⟨B8 hb3,BM hb3 nR,fun j hj=>by
      rcases Nat.lt_succ_iff_lt_or_eq.1 hj with h|h
      ·exact j1 j h
      ·rw[h];exact HNE.out,j2.trans (BM hb3 nR),by rw[hb3.frozen (p:=⟨w.heap.size+1+1,0,none⟩) lX];exact j3,j4.trans (hb3.mono j4.size)⟩
 case done=>
  rintro D X hD ⟨j1,j2,j3,j4⟩ hK
  have c3:=j2.cell Ae V3
  have HE:Hid (false=R):=by
   show _=_
   rw[<-HRR.out]
   symm
   rw[lMp]at j1
   refine List.any_eq_false.2 (fun x hx=>?_)
   obtain⟨j,hj,rfl⟩:=List.getElem_of_mem hx
   have:=j1 j (by rw[HER.out.1];exact hj)
   rw[gDe,gEe hj]at this
   simpa using this
  gi_wp2
  have hK2:(X.setCell ⟨w.heap.size+1+1,0,none⟩ (.bool false)).heap[D]? =some (.deferred (some [])):=(heap_setCell_other _ _ _ _ (by dsimp only;omega)).trans hK
  refine⟨by simp,.inl ⟨_,_,rfl,run_takeDeferred hK2,?_⟩⟩
  have y3:=Cj (World.cell?_setCell_same _ _ (.bool false) c3) hK2 rfl (.deferred none)
  exact⟨.bool false,(by simp[results,results265,go_sem,y3]),Aa HE.out,Ci (j4.setCell (by dsimp only;omega) _) (by omega) hK2 _⟩
 case stop=>
  rintro D c X hD ⟨rfl,hE,c3,j4⟩ hK
  gi_wp2
  refine⟨by simp,.inl ⟨_,_,rfl,run_takeDeferred hK,?_⟩⟩
  have y3:=Cj c3 hK rfl (.deferred none)
  exact⟨.bool true,(by simp[results,results265,go_sem,y3]),Aa hE,Ci j4 (by omega) hK _⟩
end bf
end Go.Proofs.YtdohnkkbkfhphaaGreat
