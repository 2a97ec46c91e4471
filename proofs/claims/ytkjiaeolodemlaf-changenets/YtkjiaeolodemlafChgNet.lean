/- changes, and Net: what is left of changes. -/
import Derived.Test.YtkjiaeolodemlafChgAll
import Derived.Test.YtkjiaeolodemlafChgSame
namespace Go.Proofs.Ytkjiaeolodemlaf.ch
open Go.ChangeShapes Go.WideShapes Go.ChangeAt Go.RowKit Go.Maps Go.WideMaps Go.Sort
open vl
set_option linter.unusedVariables false
set_option linter.unusedSimpArgs false

theorem TS_start (w : World) : TS ((w.alloc (.cells #[.slice none 0 0] 23)).alloc (.cells #[.slice none 0 0] 23)) w.heap.size (w.heap.size + 1) w.heap.size (.slice none 0 0) (.slice none 0 0) [] [] := by
  refine ⟨by go_simp, by go_simp, by go_simp, by go_simp, by omega, fun e => (by cases e), fun e => (by cases e), fun e => (by cases e), fun e => (by cases e), fun g e => (by cases e), by simp; omega, ?_, ?_⟩
  · exact ⟨[], rfl, ⟨rfl, .inl ⟨rfl, rfl⟩⟩, fun i hi => absurd hi (Nat.not_lt_zero i)⟩
  · exact ⟨[], rfl, ⟨rfl, .inl ⟨rfl, rfl⟩⟩, fun i hi => absurd hi (Nat.not_lt_zero i)⟩
theorem ret_slice {ad : Option Addr} {cap a b : Nat} (h : a = b) : Ending.returned (.slice ad a cap) = .returned (.slice ad b cap) := by rw [h]
theorem fr2_below {w w2 : World} {o p : Obj} (h : fr2 w.heap.size (w.heap.size + 1) ((w.alloc o).alloc p).heap.size ((w.alloc o).alloc p) w2) : Below w.heap.size w w2 := by
  have hb : Below w.heap.size w ((w.alloc o).alloc p) := ((Below.refl _ _).alloc (Nat.le_refl _) _).alloc (by simp) _
  exact ⟨h.os.trans hb.os, h.tape.trans hb.tape, h.output.trans hb.output, Nat.le_trans hb.size h.size, fun b hlt => (h.block b (by simp; omega) (by omega) (by omega)).trans (hb.block b hlt)⟩

set_option maxRecDepth 10000 in
set_option maxHeartbeats 4000000 in
theorem changes_any (B nn : Nat) (out : List Cnt) (w : World) (hm : cmap w B nn (kvOf out)) (hr : rising (kvOf out)) (hok : ∀ c ∈ out, rowOk c.r) (hlen : out.length ≤ 100000) (hd9 : (dels out).length ≤ 100000000) (hi9 : (inss out).length ≤ 100000000) :
    Calls Try.prog 23 #[.map (some B)] w fun e w' => (∃ ad cap, e = .returned (.slice ad (dels out ++ inss out).length cap) ∧ chgsAt w' ad (dels out ++ inss out)) ∧ Below w.heap.size w w' := by
  have hBlt := cmap_lt hm
  have KE := each_changes B nn out w.heap.size (w.heap.size + 1) w.heap.size _ (cmap_alloc (cmap_alloc hm (.cells #[.slice none 0 0] 23)) (.cells #[.slice none 0 0] 23)) hr hok hlen hd9 hi9 (TS_start w) (by omega) (by omega)
  have HD9 : Hid ((dels out).length ≤ 100000000) := hd9
  have HI9 : Hid ((inss out).length ≤ 100000000) := hi9
  clear hm hr hok hd9 hi9
  obtain ⟨i0, hi, hz0, hz1, hz2⟩ := info_parts infoG
  have HI : Hid (Try.prog.info? 58 = some i0 ∧ i0.zero = some (.agg #[.int .i64 0, .slice none 0 0]) ∧ i0.size = 2 ∧ i0.bytes = 32) := ⟨hi, hz0, hz1, hz2⟩
  clear hi hz0 hz1 hz2
  go_enter Try.func23, Try.ntmps23
  go_wp2_with fail
  refine KE.mono ?_
  rintro e w2 ⟨rfl, v, u, hts, hfr⟩
  have HFR : Hid (fr2 w.heap.size (w.heap.size + 1) ((w.alloc (.cells #[.slice none 0 0] 23)).alloc (.cells #[.slice none 0 0] 23)).heap.size ((w.alloc (.cells #[.slice none 0 0] 23)).alloc (.cells #[.slice none 0 0] 23)) w2) := hfr
  have hbw : Below w.heap.size w w2 := fr2_below hfr
  have hc1 := hts.c1
  have hc2 := hts.c2
  have HTS : Hid (TS w2 w.heap.size (w.heap.size + 1) w.heap.size v u (dels out) (inss out)) := hts
  obtain ⟨p, hpl, hpo, hpr⟩ := hts.r1
  obtain ⟨q, hql, hqo, hqr⟩ := hts.r2
  have HPL : Hid (p.length = (dels out).length) := hpl
  have HQL : Hid (q.length = (inss out).length) := hql
  have HPO : Hid (w2.ownsRow w.heap.size 58 2 v p.length (flatC p)) := hpo
  have HQO : Hid (w2.ownsRow w.heap.size 58 2 u q.length (flatC q)) := hqo
  have HPR : Hid (rowsC w2 w.heap.size (wrt w.heap.size (w.heap.size + 1) v u) p (dels out)) := hpr
  have HQR : Hid (rowsC w2 w.heap.size (wrt w.heap.size (w.heap.size + 1) v u) q (inss out)) := hqr
  clear hts hfr hpl hql hpo hqo hpr hqr KE
  rcases HQO.out.2 with ⟨hu, h0⟩ | ⟨g, cap, cur, hu, h1, hg, h2⟩
  · subst hu
    have hin : inss out = [] := List.length_eq_zero_iff.1 (by rw [← HQL.out]; exact h0)
    have HIN : Hid (inss out = []) := hin
    clear hin
    go_wp2_with (at_builtin; refine wpList_append_own_none rfl (.tmp 8) (.tmp 9) 23 rfl w.heap.size 58 i0 2 Try.underlying23 HI.out.1 _ _ _ rfl HPO.out rfl ?_)
    obtain ⟨ad, cap, hv, _⟩ := row_form HPO.out
    subst hv
    go_ret
    have hr1 := CR_chgs (no := wrt w.heap.size (w.heap.size + 1) (.slice ad p.length cap) (.slice none 0 0)) ⟨p, HPL.out, HPO.out, HPR.out⟩
    exact ⟨⟨ad, cap, ret_slice (by rw [HIN.out, List.append_nil]; exact HPL.out), by rw [HIN.out, List.append_nil]; exact hr1.1⟩, hbw⟩
  · obtain ⟨qn, hqn⟩ : ∃ x, q.length = x := ⟨_, rfl⟩
    have HQN : Hid (q.length = qn) := hqn
    rw [hqn] at hu
    subst hu
    have hcells := World.ownsRow.cells HQO.out (g := g) rfl
    have HCL : Hid (∀ j x, (flatC q)[j]? = some x → w2.cell? ((⟨g, 0, none⟩ : Addr).add j) = some x) := hcells
    have hl9 : p.length + qn ≤ 1000000000 := by
      have h1 := HD9.out
      have h2 := HI9.out
      rw [HPL.out, ← HQN.out, HQL.out]; omega
    clear hqn hcells hg h1 h2
    go_wp2_with (at_builtin; refine wpList_append_own _ rfl (.tmp 8) (.tmp 9) 23 rfl w.heap.size 58 i0 (.agg #[.int .i64 0, .slice none 0 0]) 2 32 Try.underlying23 HI.out.1 HI.out.2.1 HI.out.2.2.1 HI.out.2.2.2 rfl (by decide) _ _ _ rfl HPO.out ⟨g, 0, none⟩ qn cap (flatC q) rfl (by rw [flatC_len, HQN.out]) HCL.out (flatC_one (rowsC_one HQR.out HQL.out)) (by unfold maxLen; omega) (by omega) hbw.size ?_; intro v2 w3 hown3 hgrow3 hnil3)
    obtain ⟨ad, cap2, hv, _⟩ := row_form hown3
    subst hv
    go_ret
    have hno : ∀ b, b < w2.heap.size → ¬ wrt w.heap.size (w.heap.size + 1) v (.slice (some ⟨g, 0, none⟩) qn cap) b → w3.heap[b]? = w2.heap[b]? := fun b hb hn => hgrow3.block b hb (fun e => hn (.inr (.inr (.inl e.symm))))
    have hr3 := rowsC_app (rowsC_fr HPR.out hno (fun _ _ k => k)) (rowsC_fr HQR.out hno (fun _ _ k => k)) HPL.out
    have hr1 := CR_chgs (ad := ad) (cap := cap2) (n := p.length + qn) (l := dels out ++ inss out) (base := w.heap.size) ⟨p ++ q, by rw [List.length_append, List.length_append, HPL.out, HQL.out], by rw [flatC_app, List.length_append, HQN.out]; exact hown3, hr3⟩
    exact ⟨⟨ad, cap2, ret_slice hr1.2, hr1.1⟩, hbw.grown hgrow3 hbw.size (fun b hb => (own_lt HPO.out hb).1)⟩

/-- what is left of changes, as counts -/
def netS (kv : KV) (c : Chg) : KV := putK kv (encR c.r) (getK kv (encR c.r) + moreOf c.k)
def netK (l : List Chg) : KV := l.foldl netS []
theorem net_succ (l : List Chg) (i : Nat) (h : i < l.length) : netK (l.take (i + 1)) = putK (netK (l.take i)) (encR (l.getD i default).r) (getK (netK (l.take i)) (encR (l.getD i default).r) + moreOf (l.getD i default).k) := by
  unfold netK
  rw [takeC l i h, List.foldl_append]
  rfl
structure net (i : Nat) (kv : KV) : Prop where
  up : rising kv
  len : kv.length ≤ i
  cnt : ∀ p ∈ kv, -(i : Int) ≤ p.2 ∧ p.2 ≤ i
  key : keyed kv
theorem net_get {i : Nat} {kv : KV} (h : net i kv) (k : List UInt8) : -(i : Int) ≤ getK kv k ∧ getK kv k ≤ i := by
  by_cases e : getK kv k = 0
  · omega
  · have := h.cnt _ (getK_mem e)
    exact ⟨this.1, this.2⟩
theorem net_put {i : Nat} {kv : KV} (h : net i kv) {r : List Cel} (hr : rowOk r) (k : Int) : net (i + 1) (putK kv (encR r) (getK kv (encR r) + moreOf k)) := by
  have hg := net_get h (encR r)
  have hm := more_le k
  refine ⟨rising_put h.up _ _, ?_, ?_, keyed_put h.key hr _⟩
  · rw [len_put]
    have := len_del kv (encR r)
    have := h.len
    omega
  · intro p hp
    rcases mem_put.1 hp with e | e
    · subst e; dsimp only; omega
    · have := h.cnt p e.1; omega
theorem net_at {l : List Chg} (hw : wfChgs l) (hf : formOk l) (i : Nat) (hi : i ≤ l.length) : net i (netK (l.take i)) := by
  induction i with
  | zero => exact ⟨List.Pairwise.nil, Nat.le_refl _, fun p hp => absurd hp List.not_mem_nil, fun p hp => absurd hp List.not_mem_nil⟩
  | succ i ih =>
    rw [net_succ l i (by omega)]
    exact net_put (ih (by omega)) (chg_row hw hf i (by omega)) _
theorem flat_le {out : List Cnt} {f : Cnt → List Chg} {m : Nat} (h : ∀ c ∈ out, (f c).length ≤ m) : (out.flatMap f).length ≤ out.length * m := by
  induction out with
  | nil => simp
  | cons c r ih =>
    rw [List.flatMap_cons, List.length_append, List.length_cons, Nat.add_mul, Nat.one_mul]
    have h1 := h c (List.mem_cons_self ..)
    have h2 := ih (fun d hd => h d (List.mem_cons_of_mem _ hd))
    omega
def netRes (l : List Chg) (e : Ending) (w' : World) : Prop :=
  (formErr l ≠ 0 ∧ e = .returned (.tuple #[.slice none 0 0, .int .i64 (formErr l)])) ∨
  (formErr l = 0 ∧ ∃ out ad cap, kvOf out = netK l ∧ (∀ c ∈ out, rowOk c.r) ∧ e = .returned (.tuple #[.slice ad (dels out ++ inss out).length cap, .int .i64 0]) ∧ chgsAt w' ad (dels out ++ inss out))
theorem make_map0 (w : World) : (Instr.makeMap 40 none).run Try.prog w = .ok (.map (some w.heap.size)) (w.alloc (.map #[] 0)) := by
  unfold Instr.makeMap
  simp [run_underlying Try.underlying40, go_sem, asInt, Result.andThen]
end Go.Proofs.Ytkjiaeolodemlaf.ch
