/- Changes that were made can be done, and make what they should; changes that were done can be undone. -/
import Derived.Test.YtcpanmaahhiioaaGreatMgChgE
namespace Go.Proofs.YtcpanmaahhiioaaGreat.ch
open Go.ChangeShapes Go.WideShapes Go.ChangeAt Go.RowKit Go.Maps Go.WideMaps
open vl
set_option linter.unusedVariables false
set_option linter.unusedSimpArgs false

def madeL (out : List Cnt) : List Chg := dels out ++ inss out
theorem made_mem {out : List Cnt} {c : Chg} (h : c ∈ madeL out) : (c.k = 1 ∨ c.k = 2) ∧ ∃ d ∈ out, c.r = d.r := by
  rcases List.mem_append.1 h with h | h
  · obtain ⟨h1, d, h2, h3, _⟩ := dels_mem h
    exact ⟨.inr h1, d, h2, h3⟩
  · obtain ⟨h1, d, h2, h3, _⟩ := inss_mem h
    exact ⟨.inl h1, d, h2, h3⟩
theorem made_form {out : List Cnt} (hok : ∀ c ∈ out, rowOk c.r) (hl : (madeL out).length ≤ 4096) : formOk (madeL out) ∧ wfChgs (madeL out) := by
  have hrow : ∀ c ∈ madeL out, rowOk c.r := fun c hc => by
    obtain ⟨_, d, hd, e⟩ := made_mem hc
    rw [e]; exact hok d hd
  refine ⟨⟨hl, ?_⟩, ?_⟩
  · intro i hi
    have hm := mem_getD hi
    have hk := (made_mem hm).1
    refine ⟨by omega, by omega, keyErr_ok (hrow _ hm), ?_⟩
    unfold pairedAt
    rw [if_neg (by omega), if_neg (by omega)]
  · intro c hc
    have h1 := (made_mem hc).1
    have h2 := (hrow c hc).1
    exact ⟨rowOk_wf (hrow c hc), by omega, by omega, by omega⟩
theorem sum_step (l : List Chg) (i : Nat) (h : i < l.length) (k : List UInt8) : sumK (l.take (i + 1)) k = sumK (l.take i) k + if k = encR (l.getD i default).r then moreOf (l.getD i default).k else 0 := by
  rw [takeC l i h, sumK_app, sumK_one]
theorem made_err {kv kvF : KV} {out : List Cnt} (hg : good kv) (hf : good kvF) (hr : rising (kvOf out)) (hok : ∀ c ∈ out, rowOk c.r) (hl : (madeL out).length ≤ 4096) (hsum : ∀ k, getK kvF k = getK kv k + getK (kvOf out) k) :
    ∀ i, i ≤ (madeL out).length → ∀ j, j < i → errK kv (madeL out) j = 0 := by
  obtain ⟨hfo, hwf⟩ := made_form hok hl
  intro i
  induction i with
  | zero => intro _ j hj; exact absurd hj (Nat.not_lt_zero j)
  | succ i ih =>
    intro hi j hj
    have hprev := ih (by omega)
    by_cases hji : j < i
    · exact hprev j hji
    · have hje : j = i := by omega
      subst hje
      have hgi : good (atK kv (madeL out) j) := good_at hg hwf hfo j (by omega)
      have hget := at_get (kv := kv) (l := madeL out) j (by omega) hprev
      have hst := sum_step (madeL out) j (by omega)
      have hfr := fun k => sum_front hr j k
      have hfr1 := fun k => sum_front hr (j + 1) k
      have hmk : ∀ i, (dels out ++ inss out).take i = (madeL out).take i := fun _ => rfl
      simp only [hmk] at hfr hfr1
      unfold errK
      rw [addE_zero]
      have hm := mem_getD (l := madeL out) (i := j) (by omega)
      obtain ⟨key, hkey⟩ : ∃ x, encR ((madeL out).getD j default).r = x := ⟨_, rfl⟩
      have hst1 := hst key
      rw [hkey, if_pos rfl] at hst1
      rw [hkey, hget key]
      have h1 := good_get hg key
      have h2 := good_get hf key
      have h3 := hsum key
      by_cases hd : j < (dels out).length
      · have hc : ((madeL out).getD j default).k = 2 := by
          have : (madeL out).getD j default ∈ dels out := by
            unfold madeL
            rw [List.getD_eq_getElem?_getD, List.getElem?_append_left hd, ← List.getD_eq_getElem?_getD]
            exact mem_getD hd
          exact (dels_mem this).1
        have hmo : moreOf ((madeL out).getD j default).k = -1 := by rw [hc]; decide
        rw [hmo] at hst1 ⊢
        have h4 := (hfr1 key).1 (by omega)
        refine ⟨by omega, by omega, .inr (.inl ?_)⟩
        omega
      · have hc : ((madeL out).getD j default).k = 1 := by
          have : (madeL out).getD j default ∈ inss out := by
            unfold madeL at hi ⊢
            rw [List.length_append] at hi
            rw [List.getD_eq_getElem?_getD, List.getElem?_append_right (by omega), ← List.getD_eq_getElem?_getD]
            exact mem_getD (by omega)
          exact (inss_mem this).1
        have hmo : moreOf ((madeL out).getD j default).k = 1 := by rw [hc]; decide
        rw [hmo] at hst1 ⊢
        have h4 := (hfr1 key).2 (by omega)
        refine ⟨by omega, by omega, ?_⟩
        by_cases e0 : getK kv key + sumK ((madeL out).take j) key = 0
        · right; right
          have hne : getK kvF key ≠ 0 := by omega
          have hlt := len_del_lt hne
          have hsub : (atK kv (madeL out) j).length ≤ (delK kvF key).length := len_sub hgi.up (fun p hp => by
            have q1 := hgi.cnt p hp
            have q2 := getK_of hgi.up hp
            have q3 := (hfr p.1).2 (by omega)
            rw [hget] at q2
            have q4 := hsum p.1
            obtain ⟨q, hq, e⟩ := mem_of_pos (kv := kvF) (k := p.1) (by omega)
            refine ⟨q, mem_del.2 ⟨hq, ?_⟩, e⟩
            rw [e]
            intro e2
            rw [e2] at q2
            omega)
          have := hf.len
          omega
        · exact .inr (.inl e0)
theorem made_play {kv kvF : KV} {out : List Cnt} (hg : good kv) (hf : good kvF) (hr : rising (kvOf out)) (hok : ∀ c ∈ out, rowOk c.r) (hl : (madeL out).length ≤ 4096) (hsum : ∀ k, getK kvF k = getK kv k + getK (kvOf out) k) :
    (∀ i, i < (madeL out).length → errK kv (madeL out) i = 0) ∧ atK kv (madeL out) (madeL out).length = kvF := by
  have herr := made_err hg hf hr hok hl hsum (madeL out).length (Nat.le_refl _)
  refine ⟨herr, ?_⟩
  obtain ⟨hfo, hwf⟩ := made_form hok hl
  refine good_ext (good_at hg hwf hfo _ (Nat.le_refl _)) hf (fun k => ?_)
  rw [at_get _ (Nat.le_refl _) herr, List.take_length, hsum]
  have := sum_all hr k
  unfold madeL
  omega

/-- what all counts come to -/
def sumAbs : KV → Nat
  | [] => 0
  | p :: r => p.2.natAbs + sumAbs r
theorem sumAbs_ins (x : List UInt8 × Int) (l : KV) : sumAbs (insK x l) = x.2.natAbs + sumAbs l := by
  induction l with
  | nil => rfl
  | cons y r ih =>
    rw [insK]
    split
    · rfl
    · rw [sumAbs, ih, sumAbs]; omega
theorem del_none {kv : KV} {k : List UInt8} (h : ∀ p ∈ kv, p.1 ≠ k) : delK kv k = kv := by
  unfold delK
  rw [List.filter_eq_self]
  intro p hp
  simpa using h p hp
theorem sumAbs_del {kv : KV} (hr : rising kv) (k : List UInt8) : sumAbs kv = (getK kv k).natAbs + sumAbs (delK kv k) := by
  induction kv with
  | nil => rfl
  | cons p r ih =>
    have h1 := List.pairwise_cons.1 hr
    by_cases e : p.1 = k
    · have hn : ∀ q ∈ r, q.1 ≠ k := fun q hq e2 => by
        have := h1.1 q hq
        rw [e2, e, before_irrefl] at this; cases this
      have : delK (p :: r) k = r := by
        have h2 := del_none hn
        unfold delK at h2 ⊢
        rw [List.filter_cons_of_neg (by simpa using e)]
        exact h2
      rw [this, getK_cons, if_pos e, sumAbs]
    · have : delK (p :: r) k = p :: delK r k := by
        unfold delK
        rw [List.filter_cons_of_pos (by simpa using e)]
      rw [this, getK_cons, if_neg e, sumAbs, sumAbs, ih h1.2]; omega
theorem sumAbs_put {kv : KV} (hr : rising kv) (k : List UInt8) (d : Int) : sumAbs (putK kv k (getK kv k + d)) ≤ sumAbs kv + d.natAbs := by
  unfold putK
  rw [sumAbs_ins, sumAbs_del hr k]
  dsimp only
  omega
theorem sumAbs_net {l : List Chg} (hw : wfChgs l) (hf : formOk l) : sumAbs (netK l) ≤ l.length := by
  suffices h : ∀ i, i ≤ l.length → sumAbs (netK (l.take i)) ≤ i by
    have := h l.length (Nat.le_refl _)
    rwa [List.take_length] at this
  intro i
  induction i with
  | zero => intro _; exact Nat.le_refl _
  | succ i ih =>
    intro hi
    rw [net_succ l i (by omega)]
    have h1 := sumAbs_put (net_at hw hf i (by omega)).up (encR (l.getD i default).r) (moreOf (l.getD i default).k)
    have h2 := ih (by omega)
    have h3 := more_le (l.getD i default).k
    omega
theorem made_len (out : List Cnt) : (madeL out).length = sumAbs (kvOf out) := by
  induction out with
  | nil => rfl
  | cons c r ih =>
    have e1 : dels (c :: r) = List.replicate (-c.n).toNat ⟨2, c.r⟩ ++ dels r := rfl
    have e2 : inss (c :: r) = List.replicate c.n.toNat ⟨1, c.r⟩ ++ inss r := rfl
    have e3 : kvOf (c :: r) = (encR c.r, c.n) :: kvOf r := rfl
    unfold madeL at ih ⊢
    rw [List.length_append] at ih ⊢
    rw [e1, e2, e3, sumAbs, List.length_append, List.length_append, List.length_replicate, List.length_replicate]
    dsimp only
    omega

/-- backwards -/
def turnOf (k : Int) : Int := if k = 1 then 2 else if k = 2 then 1 else if k = 3 then 4 else 3
theorem turn_more {k : Int} (h1 : 1 ≤ k) (h2 : k ≤ 4) : moreOf (turnOf k) = -(moreOf k) := by
  unfold turnOf moreOf
  split
  · subst_vars; decide
  · split
    · subst_vars; decide
    · split
      · subst_vars; decide
      · have : k = 4 := by omega
        subst this; decide
def backL (l : List Chg) : List Chg := l.reverse.map fun c => ⟨turnOf c.k, c.r⟩
theorem backL_len (l : List Chg) : (backL l).length = l.length := by simp [backL]
theorem backL_at (l : List Chg) (i : Nat) (h : i < l.length) : (backL l).getD i default = ⟨turnOf (l.getD (l.length - 1 - i) default).k, (l.getD (l.length - 1 - i) default).r⟩ := by
  unfold backL
  rw [List.getD_eq_getElem?_getD, List.getElem?_map, List.getElem?_reverse h, List.getElem?_eq_getElem (by omega), List.getD_eq_getElem?_getD, List.getElem?_eq_getElem (by omega)]
  rfl
theorem back_form {l : List Chg} (hf : formOk l) (hw : wfChgs l) : formOk (backL l) ∧ wfChgs (backL l) := by
  have hall : ∀ c ∈ backL l, ∃ d ∈ l, c = ⟨turnOf d.k, d.r⟩ := fun c hc => by
    obtain ⟨d, hd, e⟩ := List.mem_map.1 hc
    exact ⟨d, List.mem_reverse.1 hd, e.symm⟩
  have htu : ∀ k : Int, 1 ≤ k → k ≤ 4 → 1 ≤ turnOf k ∧ turnOf k ≤ 4 := fun k _ _ => by unfold turnOf; split <;> (try split) <;> (try split) <;> omega
  refine ⟨⟨by rw [backL_len]; exact hf.1, ?_⟩, ?_⟩
  · intro i hi
    rw [backL_len] at hi
    obtain ⟨q1, q2, q3, q4⟩ := hf.2 (l.length - 1 - i) (by omega)
    have e := backL_at l i hi
    refine ⟨by rw [e]; exact (htu _ q1 q2).1, by rw [e]; exact (htu _ q1 q2).2, by rw [e]; exact q3, ?_⟩
    unfold pairedAt at q4 ⊢
    rw [e, backL_len]
    dsimp only
    by_cases c3 : (l.getD (l.length - 1 - i) default).k = 3
    · have ht : turnOf (l.getD (l.length - 1 - i) default).k = 4 := by rw [c3]; decide
      rw [if_pos c3] at q4
      rw [ht, if_neg (by decide), if_pos rfl]
      simp only [Bool.and_eq_true, decide_eq_true_eq] at q4 ⊢
      refine ⟨by omega, ?_⟩
      rw [backL_at l (i - 1) (by omega), show l.length - 1 - (i - 1) = l.length - 1 - i + 1 by omega]
      dsimp only
      rw [q4.2]; decide
    · rw [if_neg c3] at q4
      by_cases c4 : (l.getD (l.length - 1 - i) default).k = 4
      · have ht : turnOf (l.getD (l.length - 1 - i) default).k = 3 := by rw [c4]; decide
        rw [if_pos c4] at q4
        rw [ht, if_pos rfl]
        simp only [Bool.and_eq_true, decide_eq_true_eq] at q4 ⊢
        refine ⟨by omega, ?_⟩
        rw [backL_at l (i + 1) (by omega), show l.length - 1 - (i + 1) = l.length - 1 - i - 1 by omega]
        dsimp only
        rw [q4.2]; decide
      · have ht : turnOf (l.getD (l.length - 1 - i) default).k ≠ 3 ∧ turnOf (l.getD (l.length - 1 - i) default).k ≠ 4 := by
          unfold turnOf
          split
          · decide
          · split
            · decide
            · omega
        rw [if_neg ht.1, if_neg ht.2]
  · intro c hc
    obtain ⟨d, hd, e⟩ := hall c hc
    subst e
    obtain ⟨h1, h2, h3, h4⟩ := hw d hd
    have hk : 1 ≤ turnOf d.k ∧ turnOf d.k ≤ 4 := by unfold turnOf; split <;> (try split) <;> (try split) <;> omega
    exact ⟨h1, h2, by dsimp only; omega, by dsimp only; omega⟩
theorem undo_one {kv : KV} {r : List Cel} {d : Int} (hg : good kv) (hr : rowOk r) (h : addE kv (encR r) d = 0) : addE (addV kv (encR r) d) (encR r) (-d) = 0 ∧ addV (addV kv (encR r) d) (encR r) (-d) = kv := by
  have hget := addV_get h
  have hgr := good_get hg (encR r)
  obtain ⟨h1, h2, h3⟩ := addE_zero.1 h
  have hz : addE (addV kv (encR r) d) (encR r) (-d) = 0 := by
    rw [addE_zero, hget, if_pos rfl]
    refine ⟨by omega, by omega, ?_⟩
    by_cases e0 : getK kv (encR r) = 0
    · left; omega
    · by_cases e1 : getK kv (encR r) + d = 0
      · right; right
        have : addV kv (encR r) d = delK kv (encR r) := by
          unfold addV
          rw [if_neg (by omega), if_neg (by omega), if_pos e1]
        rw [this]
        have := len_del_lt e0
        have := hg.len
        omega
      · right; left; exact e1
  refine ⟨hz, good_ext (good_add (good_add hg hr _) hr _) hg (fun k => ?_)⟩
  rw [addV_get hz, hget]
  split <;> omega
theorem back_play {kv : KV} {l : List Chg} (hg : good kv) (hf : formOk l) (hw : wfChgs l) (h : ∀ i, i < l.length → errK kv l i = 0) :
    ∀ i, i ≤ l.length → atK (atK kv l l.length) (backL l) i = atK kv l (l.length - i) ∧ ∀ j, j < i → errK (atK kv l l.length) (backL l) j = 0 := by
  intro i
  induction i with
  | zero => intro _; exact ⟨rfl, fun j hj => absurd hj (Nat.not_lt_zero j)⟩
  | succ i ih =>
    intro hi
    obtain ⟨h1, h2⟩ := ih (by omega)
    have hm : l.length - i = l.length - 1 - i + 1 := by omega
    have hkv : good (atK kv l (l.length - 1 - i)) := good_at hg hw hf _ (by omega)
    have hrow := chg_row hw hf (l.length - 1 - i) (by omega)
    have hk := hf.2 (l.length - 1 - i) (by omega)
    have herr := h (l.length - 1 - i) (by omega)
    unfold errK at herr
    have hu := undo_one hkv hrow herr
    have hs := atK_succ kv l (l.length - 1 - i) (by omega)
    rw [hm, hs] at h1
    have hb := backL_at l i (by omega)
    have hmo : moreOf ((backL l).getD i default).k = -(moreOf (l.getD (l.length - 1 - i) default).k) := by rw [hb]; exact turn_more hk.1 hk.2.1
    have hbr : ((backL l).getD i default).r = (l.getD (l.length - 1 - i) default).r := by rw [hb]
    refine ⟨?_, ?_⟩
    · rw [atK_succ _ _ i (by rw [backL_len]; omega), h1, hmo, hbr, hu.2, show l.length - (i + 1) = l.length - 1 - i by omega]
    · intro j hj
      by_cases e : j < i
      · exact h2 j e
      · have : j = i := by omega
        subst this
        unfold errK
        rw [h1, hmo, hbr]
        exact hu.1
end Go.Proofs.YtcpanmaahhiioaaGreat.ch
