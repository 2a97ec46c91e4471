/- E5, with all sides turned round: the answer's rows, each as often as it stands there, turned. And a list of changes that a slot holds; a row's front and back. -/
import Derived.Test.YtcpanmaahhiioaaGreatBatKeep
import Derived.Test.YtcpanmaahhiioaaGreatBatTurn
import Derived.Test.YtcpanmaahhiioaaGreatBatOrd1
import Derived.Test.YtcpanmaahhiioaaGreatMgBatB
namespace Go.Proofs.YtcpanmaahhiioaaGreat.bt
open Go.ChangeShapes Go.WideShapes Go.ChangeAt Go.RowKit Go.Maps Go.WideMaps
open vl pl
set_option linter.unusedVariables false
set_option linter.unusedSimpArgs false
def expand (n : Nat) (out : List ch.Cnt) : List (List Cel) := out.flatMap fun c => List.replicate c.n.toNat (turnR n c.r)
/-- so far: whole rows, and so many of the next one -/
def EX (n : Nat) (out : List ch.Cnt) (i k : Nat) : List (List Cel) := expand n (out.take i) ++ List.replicate k (turnR n (out.getD i default).r)
theorem EX_start (n : Nat) (out : List ch.Cnt) : expand n (out.take 0) = [] := rfl
theorem EX_zero (n : Nat) (out : List ch.Cnt) (i : Nat) : EX n out i 0 = expand n (out.take i) := by unfold EX; rw [List.replicate_zero, List.append_nil]
theorem EX_succ (n : Nat) (out : List ch.Cnt) (i k : Nat) : EX n out i (k + 1) = EX n out i k ++ [turnR n (out.getD i default).r] := by
  unfold EX; rw [List.replicate_succ', List.append_assoc]
theorem expand_app (n : Nat) (a b : List ch.Cnt) : expand n (a ++ b) = expand n a ++ expand n b := by unfold expand; rw [List.flatMap_append]
theorem EX_next (n : Nat) (out : List ch.Cnt) (i : Nat) (h : i < out.length) : expand n (out.take (i + 1)) = EX n out i (out.getD i default).n.toNat := by
  rw [take_c out i h, expand_app]
  unfold EX
  congr 1
  unfold expand
  rw [List.flatMap_cons, List.flatMap_nil, List.append_nil]
theorem EX_len (n : Nat) (out : List ch.Cnt) (i k : Nat) (h : i < out.length) (hk : k ≤ (out.getD i default).n.toNat) : (EX n out i k).length ≤ (expand n out).length := by
  have h1 : out = out.take (i + 1) ++ out.drop (i + 1) := (List.take_append_drop _ _).symm
  have h2 : (expand n out).length = (expand n (out.take (i + 1))).length + (expand n (out.drop (i + 1))).length := by
    rw [← List.length_append, ← expand_app, ← h1]
  rw [EX_next n out i h] at h2
  unfold EX at h2 ⊢
  rw [List.length_append, List.length_replicate] at h2 ⊢
  omega
theorem expand_count (n : Nat) (q : List Cel → Bool) : ∀ (out : List ch.Cnt), (∀ c ∈ out, 0 ≤ c.n) → (((expand n out).filter q).length : Int) = sumQ (fun r => q (turnR n r)) out
  | [], _ => rfl
  | c :: out, h => by
    have ih := expand_count n q out (fun d hd => h d (List.mem_cons_of_mem _ hd))
    have hc := h c (List.mem_cons_self ..)
    have e : expand n (c :: out) = List.replicate c.n.toNat (turnR n c.r) ++ expand n out := rfl
    rw [e, List.filter_append, List.length_append, sumQ, ← ih]
    cases hq : q (turnR n c.r) with
    | true =>
      rw [List.filter_replicate_of_pos hq, List.length_replicate, if_pos rfl]
      omega
    | false =>
      rw [List.filter_replicate_of_neg (by rw [hq]; decide), if_neg (by decide)]
      simp
theorem turnR_ok {n : Nat} {r : List Cel} (h : rowOk r) : rowOk (turnR n r) := by
  unfold turnR
  refine ⟨by have := h.1; rw [List.length_append, List.length_drop, List.length_take]; omega, fun c hc => ?_⟩
  rcases List.mem_append.1 hc with h1 | h1
  · exact h.2 c (List.mem_of_mem_drop h1)
  · exact h.2 c (List.mem_of_mem_take h1)
theorem expand_ok {n : Nat} {out : List ch.Cnt} (h : ∀ c ∈ out, rowOk c.r) : ∀ r ∈ expand n out, rowOk r := by
  intro r hr
  unfold expand at hr
  obtain ⟨c, hc, hm⟩ := List.mem_flatMap.1 hr
  rw [(List.mem_replicate.1 hm).2]
  exact turnR_ok (h c hc)
theorem rowsK_ext {l m : List (List Cel)} (h : ∀ r ∈ l, rowOk r) (hm : ∀ r ∈ m, rowOk r) (hl : l.length ≤ 4096) (hml : m.length ≤ 4096) (he : ∀ k, cntR l k = cntR m k) : rowsK l = rowsK m := by
  refine ch.good_ext (rowsK_good h hl) (rowsK_good hm hml) (fun k => ?_)
  rw [rowsK_get hl, rowsK_get hml, he]
/-- what comes of turning back is the join -/
theorem turned_back {p : Pln} {L R : List Stm} {out : List ch.Cnt} (hk : p.kind ≠ 3) (h : batchErr p L R = 0) (hL : wfStms L) (hR : wfStms R) (h' : batchErr (turnP p) R L = 0) (ho : ch.viewOk out) (hw : ch.wfView out) (hkv : ch.kvOf out = rowsK (told (turnP p) R L)) (hn : ∀ c ∈ out, 0 ≤ c.n) :
    (expand p.right.length out).length ≤ 4096 ∧ (∀ r ∈ expand p.right.length out, rowOk r) ∧ rowsK (expand p.right.length out) = rowsK (told p L R) := by
  have b := batch_ok h
  have b' := batch_ok h'
  have hT : ∀ r ∈ told (turnP p) R L, rowOk r := fun r hr => (told_ok h' hR hL r hr).1
  have hTl : (told (turnP p) R L).length ≤ 4096 := by have := told_len (turnP p) R L b'.many; omega
  have hro := ch.view_rows hw ho
  have hlen : (expand p.right.length out).length ≤ 4096 := by
    have h1 := expand_count p.right.length (fun _ => true) out hn
    rw [sumQ_rows _ hT hTl hro hkv, List.filter_eq_self.2 (fun _ _ => rfl), List.filter_eq_self.2 (fun _ _ => rfl)] at h1
    omega
  refine ⟨hlen, expand_ok hro, ?_⟩
  refine rowsK_ext (expand_ok hro) (fun r hr => (told_ok h hL hR r hr).1) hlen (by have := told_len p L R b.many; omega) (fun k => ?_)
  have h1 := expand_count p.right.length (fun r => encR r == k) out hn
  rw [sumQ_rows _ hT hTl hro hkv] at h1
  have h2 : cntR ((told (turnP p) R L).map (turnR p.right.length)) k = cntR (told p L R) k := cntR_perm (told_turn hk b.plan L R (fun s hs => (rErr_ok (firstErr_ok b.l s hs)).1) (fun s hs => (rErr_ok (firstErr_ok b.r s hs)).1)) k
  rw [← h2]
  unfold cntR
  rw [List.filter_map, List.length_map]
  have h3 : (((expand p.right.length out).filter fun r => encR r == k).length : Int) = (((told (turnP p) R L).filter ((fun r => encR r == k) ∘ turnR p.right.length)).length : Int) := h1
  omega
theorem turn_batch {p : Pln} {L R : List Stm} (hk : p.kind ≠ 3) (h : batchErr p L R = 0) : batchErr (turnP p) R L = 0 := by
  have b := batch_ok h
  exact batch_mk (turn_err hk b.plan) (by have := b.many; omega) (fits_mem b.rt) (fits_mem b.lt) (fun s hs => (turn_err1 p s.r).trans (firstErr_ok b.r s hs)) (fun s hs => (turn_err2 p s.r).trans (firstErr_ok b.l s hs))
/-- the rows of the turned join, and how often they stand there -/
theorem turned_rows {p : Pln} {L R : List Stm} {out : List ch.Cnt} (h' : batchErr (turnP p) R L = 0) (hL : wfStms L) (hR : wfStms R) (ho : ch.viewOk out) (hw : ch.wfView out) (hkv : ch.kvOf out = rowsK (told (turnP p) R L)) :
    ∀ c ∈ out, c.r.length = p.right.length + p.left.length ∧ 0 ≤ c.n ∧ c.n ≤ 4096 := by
  intro c hc
  have b' := batch_ok h'
  have hT := told_ok h' hR hL
  have hTl : (told (turnP p) R L).length ≤ 4096 := by have := told_len (turnP p) R L b'.many; omega
  have hm := out_told (fun r hr => (hT r hr).1) hTl (ch.view_rows hw ho) hkv c hc
  have hg := rowsK_good (fun r hr => (hT r hr).1) hTl
  have hmem : (encR c.r, c.n) ∈ rowsK (told (turnP p) R L) := by rw [← hkv]; exact List.mem_map.2 ⟨c, hc, rfl⟩
  have hge := ch.getK_of hg.up hmem
  rw [rowsK_get hTl] at hge
  refine ⟨(hT _ hm).2, ?_, ?_⟩
  · show 0 ≤ c.n
    have : (cntR (told (turnP p) R L) (encR c.r) : Int) = c.n := hge
    omega
  · have h1 : (cntR (told (turnP p) R L) (encR c.r) : Int) = c.n := hge
    have h2 : cntR (told (turnP p) R L) (encR c.r) ≤ (told (turnP p) R L).length := List.length_filter_le _ _
    omega
end Go.Proofs.YtcpanmaahhiioaaGreat.bt
