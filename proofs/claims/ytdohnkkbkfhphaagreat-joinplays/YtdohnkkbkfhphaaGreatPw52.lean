import Derived.Test.YtdohnkkbkfhphaaGreatPw36
set_option linter.all false
open Go.RowKit
namespace Go.Proofs.YtdohnkkbkfhphaaGreat
namespace jn
open vl bf
variable {p : pl.Pln}
theorem PO{side:Int}{z:Ent}(h:EW p side z=true)(a:wfE z):wfE z/\z.key.size<=140737488355328/\z.row.length<=2000000:=by
 unfold EW at h;simp only[Bool.and_eq_true,decide_eq_true_eq]at h;have b:=(NQ (time:=0) (seq:=0) (met:=false) h.1.2 a.row Ϡ ⟨Ϡ,Ϡ⟩).2;have c:=(Bp h.1.1).2;rw[h.2]at b;exact⟨a,ϟ,ϟ⟩
theorem Vk{s:Jn}(h:goodJ p s):∀z∈Aa s.L++Aa s.R,wfE z/\z.key.size<=140737488355328/\z.row.length<=2000000:=λz a=>by
 have b:=(h.wf z a).1;rcases List.mem_append.1 a with a|a
 ·exact PO (h.ok.rowL z a) b
 ·exact PO (h.ok.rowR z a) b
end jn
end Go.Proofs.YtdohnkkbkfhphaaGreat
