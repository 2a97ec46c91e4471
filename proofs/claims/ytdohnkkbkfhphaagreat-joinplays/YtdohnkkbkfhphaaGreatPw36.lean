import Derived.Test.YtdohnkkbkfhphaaGreatPw35
set_option linter.all false
open Go.RowKit List
namespace Go.Proofs.YtdohnkkbkfhphaaGreat
namespace jn
open vl bf
theorem Jc{p:pl.Pln}:∀(l:List Ev) (s:Jn) (i:Nat),goodJ p s->(∀v∈l,wfV v)->goodJ p (C6 p s l i).1
 |[],s,i,h,_=>h
 |v::l,s,i,h,hv=>by
  have a:∀u∈l,wfV u:=λu c=>hv u (mem_cons_of_mem _ c);rw[C6];split
  ·exact Jc l s (i+1) h a
  ·rename_i b;exact Jc l _ (i+1) (good_step h.wf (hv v (mem_cons_self ..)) (by simpa using b)) a
end jn
end Go.Proofs.YtdohnkkbkfhphaaGreat
