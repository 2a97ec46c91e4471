/- E5: in whatever order rows stand, the same comes. No Go in sight. -/
import Derived.Test.YtcpanmaahhiioaaGreatBatAllP
import Derived.Test.YtcpanmaahhiioaaGreatBatVers
import Derived.Test.YtcpanmaahhiioaaGreatMgBatA
namespace Go.Proofs.YtcpanmaahhiioaaGreat.bt
open Go.RowKit
open vl pl
set_option linter.unusedVariables false
set_option linter.unusedSimpArgs false
/-- a cell whose parts a machine has -/
def fine (c : Cel) : Prop := (-9223372036854775808 ≤ c.n ∧ c.n ≤ 9223372036854775807) ∧ c.s.size ≤ maxLen
theorem fine_no : fine noCel := ⟨by unfold noCel; decide, by unfold noCel; exact Nat.zero_le _⟩
theorem fine_get {r : List Cel} (h : wfRow r) (i : Nat) : fine (r.getD i default) := by
  by_cases hi : i < r.length
  · exact wf_at h i hi
  · have e : r.getD i default = noCel := by rw [List.getD_eq_getElem?_getD, List.getElem?_eq_none (by omega)]; rfl
    rw [e]
    exact fine_no
theorem fine_wrap (k n : Int) : fine ⟨k, wrap64 n, ⟨#[]⟩⟩ := ⟨by show -9223372036854775808 ≤ wrap64 n ∧ wrap64 n ≤ 9223372036854775807; unfold wrap64; omega, Nat.zero_le _⟩
theorem foldl_fine {f : Cel → ch.Cnt → Cel} {v : List ch.Cnt} (h : ∀ b c, c ∈ v → fine b → fine (f b c)) : ∀ b, fine b → fine (v.foldl f b) := by
  induction v with
  | nil => intro b hb; exact hb
  | cons c v ih => intro b hb; exact ih (fun b d hd => h b d (List.mem_cons_of_mem _ hd)) _ (h b c (List.mem_cons_self ..) hb)
theorem cntS_in (v : List ch.Cnt) : -9223372036854775808 ≤ cntS v ∧ cntS v ≤ 9223372036854775807 := by
  have : ∀ (v : List ch.Cnt) (s : Int), -9223372036854775808 ≤ s ∧ s ≤ 9223372036854775807 → -9223372036854775808 ≤ v.foldl (fun s c => wrap64 (s + c.n)) s ∧ v.foldl (fun s c => wrap64 (s + c.n)) s ≤ 9223372036854775807 := by
    intro v
    induction v with
    | nil => intro s h; exact h
    | cons c v ih => intro s h; exact ih _ (by show -9223372036854775808 ≤ wrap64 (s + c.n) ∧ wrap64 (s + c.n) ≤ 9223372036854775807; unfold wrap64; omega)
  exact this v 0 (by decide)
theorem figC_fine (a : Int × Int) {v : List ch.Cnt} (h : ch.wfView v) : fine (figC a v) := by
  unfold figC
  have hs : ∀ col, fine (v.foldl (sumStep col) noCel) := fun col => foldl_fine (fun b c hc hb => by
    unfold sumStep; split
    · exact fine_wrap _ _
    · exact hb) _ fine_no
  have ho : ∀ col way, fine (v.foldl (outStep col way) noCel) := fun col way => foldl_fine (fun b c hc hb => by
    unfold outStep; split
    · exact hb
    · split
      · exact fine_get (h c hc).1 _
      · exact hb) _ fine_no
  split
  · exact ⟨cntS_in v, Nat.zero_le _⟩
  · split
    · exact hs _
    · split
      · exact ho _ _
      · exact ho _ _
theorem ofKey_wf {p : Pln} {v : List ch.Cnt} (h : ch.wfView v) (k : List UInt8) : ch.wfView (ofKey (keyG p) v k) := fun c hc => h c (by unfold ofKey at hc; exact (List.mem_filter.1 hc).1)
theorem gkeys_len (p : Pln) (v : List ch.Cnt) : (gkeys p v).length ≤ v.length := by
  induction v using snoc_ind with
  | h0 => exact Nat.le_refl _
  | hs v c ih =>
    rw [gkeys_snoc, ch.len_put, List.length_append, List.length_singleton]
    have : (ch.delK (gkeys p v) (keyG p c)).length ≤ (gkeys p v).length := by unfold ch.delK; exact List.length_filter_le _ _
    omega
theorem headR_len (p : Pln) (v : List ch.Cnt) (k : List UInt8) : (headR p v k).length ≤ p.group.length := by
  unfold headR
  split
  · exact Nat.zero_le _
  · unfold headG pickR; rw [List.length_map]; exact Nat.le_refl _
theorem headR_fine {p : Pln} {v : List ch.Cnt} (h : ch.wfView v) (k : List UInt8) : ∀ c ∈ headR p v k, fine c := by
  intro c hc
  unfold headR at hc
  split at hc
  · cases hc
  · rename_i d l ho
    have hd : d ∈ ofKey (keyG p) v k := by rw [ho]; exact List.mem_cons_self ..
    unfold headG pickR at hc
    obtain ⟨i, _, rfl⟩ := List.mem_map.1 hc
    exact fine_get (ofKey_wf h k d hd).1 _
theorem groupOut_wf {p : Pln} {v : List ch.Cnt} (hp : planErr p = 0) (hg : p.grouped = true) (h : ch.wfView v) : ch.wfView (groupOut p v) := by
  intro c hc
  unfold groupOut at hc
  obtain ⟨q, _, rfl⟩ := List.mem_map.1 hc
  refine ⟨fun x hx => ?_, ?_, by show -9223372036854775808 ≤ (1 : Int) ∧ (1 : Int) ≤ 9223372036854775807; decide⟩
  · rcases List.mem_append.1 hx with h1 | h1
    · exact headR_fine h _ x h1
    · unfold figsR at h1
      obtain ⟨a, _, rfl⟩ := List.mem_map.1 h1
      exact figC_fine a (ofKey_wf h _)
  · have h1 := headR_len p v q.1
    have h2 := group_few hp hg
    show (headR p v q.1 ++ figsR p v q.1).length ≤ _
    rw [List.length_append]
    unfold figsR
    rw [List.length_map]
    omega
/-- the view that All answers, where the join comes to these counts -/
def allV (p : Pln) (rk : ch.KV) (V : List ch.Cnt) : Prop := ∃ out, ch.kvOf out = rk ∧ ch.viewOk out ∧ ch.wfView out ∧ V = if p.grouped = true then groupOut p out else out
theorem allV_one {p : Pln} {rk : ch.KV} {V V' : List ch.Cnt} (h : allV p rk V) (h' : allV p rk V') : V = V' := by
  obtain ⟨a, a1, a2, a3, rfl⟩ := h
  obtain ⟨b, b1, b2, b3, rfl⟩ := h'
  have : a = b := ch.kvOf_inj (ch.view_rows a3 a2) (ch.view_rows b3 b2) (a1.trans b1.symm)
  rw [this]
theorem allV_wf {p : Pln} {rk : ch.KV} {V : List ch.Cnt} (hp : planErr p = 0) (h : allV p rk V) : ch.wfView V ∧ V.length ≤ 4096 := by
  obtain ⟨a, a1, a2, a3, rfl⟩ := h
  split
  · rename_i hg
    refine ⟨groupOut_wf hp hg a3, ?_⟩
    have := gkeys_len p a
    have := a2.1
    unfold groupOut
    rw [List.length_map]
    omega
  · exact ⟨a3, a2.1⟩
theorem batch_mk {p : Pln} {L R : List Stm} (h1 : planErr p = 0) (h2 : L.length + R.length ≤ 120) (h3 : ∀ s ∈ L, tm.fitB s.t = true) (h4 : ∀ s ∈ R, tm.fitB s.t = true) (h5 : ∀ s ∈ L, rErr p 1 s.r = 0) (h6 : ∀ s ∈ R, rErr p 2 s.r = 0) : batchErr p L R = 0 := by
  have fe : ∀ (side : Int) (l : List Stm), (∀ s ∈ l, rErr p side s.r = 0) → firstErr p side l = 0 := by
    intro side l
    induction l with
    | nil => intro _; rfl
    | cons s l ih => intro h; unfold firstErr; rw [if_pos (h s (List.mem_cons_self ..))]; exact ih (fun t ht => h t (List.mem_cons_of_mem _ ht))
  have fb : ∀ l : List Stm, (∀ s ∈ l, tm.fitB s.t = true) → fitsB l = true := fun l h => by
    unfold fitsB; exact allB_iff.2 (fun i hi => h _ (getD_mem hi))
  unfold batchErr
  rw [if_neg (by rw [h1]; decide), if_neg (by omega), if_neg (by rw [fb L h3, fb R h4]; decide), if_neg (by rw [fe 1 L h5]; decide)]
  exact fe 2 R h6
theorem fits_mem {l : List Stm} (h : fitsB l = true) : ∀ s ∈ l, tm.fitB s.t = true := by
  intro s hs
  obtain ⟨i, hi, e⟩ := List.mem_iff_getElem.1 hs
  unfold fitsB at h
  have := allB_iff.1 h i hi
  have e2 : l.getD i default = s := by rw [List.getD_eq_getElem?_getD, List.getElem?_eq_getElem hi]; exact e
  rw [e2] at this
  exact this
theorem batch_perm {p : Pln} {L R L' R' : List Stm} (h : batchErr p L R = 0) (hl : L'.Perm L) (hr : R'.Perm R) : batchErr p L' R' = 0 := by
  have b := batch_ok h
  exact batch_mk b.plan (by rw [hl.length_eq, hr.length_eq]; exact b.many) (fun s hs => fits_mem b.lt s (hl.mem_iff.1 hs)) (fun s hs => fits_mem b.rt s (hr.mem_iff.1 hs)) (fun s hs => firstErr_ok b.l s (hl.mem_iff.1 hs)) (fun s hs => firstErr_ok b.r s (hr.mem_iff.1 hs))
theorem stms_perm {L L' : List Stm} (h : wfStms L) (hl : L'.Perm L) : wfStms L' := fun s hs => h s (hl.mem_iff.1 hs)
theorem told_rows {p : Pln} {L R : List Stm} (h : batchErr p L R = 0) (hL : wfStms L) (hR : wfStms R) {m : List (List Cel)} (hp : (told p L R).Perm m) : rowsK (told p L R) = rowsK m :=
  rowsK_perm (fun r hr => (told_ok h hL hR r hr).1) (by have := told_len p L R (batch_ok h).many; omega) hp
theorem order_left {p : Pln} {L R L' : List Stm} (h : batchErr p L R = 0) (hL : wfStms L) (hR : wfStms R) (hl : L'.Perm L) : rowsK (told p L' R) = rowsK (told p L R) :=
  (told_rows h hL hR (told_left hl.symm R)).symm
/-- are the times up to there all unlike? -/
def unlike (R : List Stm) (n : Nat) : Prop := ∀ a, a < n → ∀ b, b < a → (R.getD a default).t ≠ (R.getD b default).t
theorem unlike_pairs {R : List Stm} (h : unlike R R.length) : R.Pairwise fun a b => a.t ≠ b.t := by
  rw [List.pairwise_iff_getElem]
  intro i j hi hj hij
  have := h j hj i hij
  rw [List.getD_eq_getElem?_getD, List.getD_eq_getElem?_getD, List.getElem?_eq_getElem hi, List.getElem?_eq_getElem hj] at this
  exact fun e => this e.symm
theorem order_right {p : Pln} {L R R' : List Stm} (h : batchErr p L R = 0) (hL : wfStms L) (hR : wfStms R) (hr : R'.Perm R) (hu : p.kind = 3 → unlike R R.length) : rowsK (told p L R') = rowsK (told p L R) := by
  by_cases hk : p.kind = 3
  · rw [told_perm3 hk ?_ L (unlike_pairs (hu hk)) hr.symm]
    have h1 := (planErr_ok (batch_ok h).plan).1.2.1.2
    rw [if_pos hk] at h1
    exact h1
  · exact (told_rows h hL hR (told_perm hk (List.Perm.refl L) hr.symm)).symm
end Go.Proofs.YtcpanmaahhiioaaGreat.bt
