/- GroupAll, behind its first loop: what comes out. -/
import Derived.Test.YtcpanmaahhiioaaGreatBatGA2
import Derived.Test.YtcpanmaahhiioaaGreatBatRFig
import Derived.Test.YtcpanmaahhiioaaGreatMgBatK
namespace Go.Proofs.YtcpanmaahhiioaaGreat.bt
open Go.ChangeShapes Go.WideShapes Go.ChangeAt Go.RowKit
open vl pl
set_option linter.unusedVariables false
set_option linter.unusedSimpArgs false
/-- the groups' rows -/
theorem GA_out {w wr : World} {base : Nat} {hv pv : Value} {p : Pln} {v : List ch.Cnt} {G : List GX} (h : GA w wr base hv pv p (gkeys p v) v G) (hok : groupOk p v) (hw : ch.wfView v) : groupOut p v = G.map fun x => ⟨x.1.2.r ++ figsR p v (encR x.1.2.r), 1⟩ := by
  unfold groupOut
  rw [← h.kv]
  unfold ch.kvP ch.kvOf ch.outOf hs
  rw [List.map_map, List.map_map, List.map_map]
  apply List.map_congr_left
  intro x hx
  show groupRow p v (encR x.1.2.r) = _
  have hm : ∃ q ∈ gkeys p v, q.1 = encR x.1.2.r := ⟨(encR x.1.2.r, x.1.2.n), by
    rw [← h.kv]
    exact List.mem_map.2 ⟨x.1.2, List.mem_map.2 ⟨x.1, List.mem_map.2 ⟨x, hx, rfl⟩, rfl⟩, rfl⟩, rfl⟩
  have hr := headR_is hok hw ((gkeys_mem p v (encR x.1.2.r)).1 hm)
  have e : headR p v (encR x.1.2.r) = x.1.2.r := encR_inj hr.1.2 (h.ok x hx).2 hr.2
  unfold groupRow
  rw [e]
theorem sum_kind {p : Pln} {v : List ch.Cnt} (h : groupOk p v) {a : Int × Int} (ha : a ∈ p.aggs) (h2 : a.1 = 2) : ∀ c ∈ v, (c.r.getD a.2.toNat default).k = 0 ∨ (c.r.getD a.2.toNat default).k = 2 := by
  intro c hc
  have h3 := (planErr_ok h.plan).2.2.2.2.2.2.2 a ha
  unfold aggOk at h3
  rw [if_neg (by rw [h2]; decide)] at h3
  have h4 := ((typedB_iff _ _).1 (h.typ c hc)).2 a.2.toNat (by rw [h.len c hc]; have := h3.1; omega)
  unfold cellB at h4
  rw [decide_eq_true_eq, h3.2 h2] at h4
  exact h4
theorem step_appVl {ops : Array Oper} {o : Oper} {a : Act} {K : Act → World → Prop} {Q : Exit → Act → World → Prop} {E : Prop} (hgd : o.guard = none) (s x : Operand)
    (hop : o.op = .call { callee := .builtin .append, args := #[s, x], argTypes := #[43, 43] })
    (base : Nat) (v : Value) (r : List Cel) (c : Cel) (w1 : World) (ho : ownV w1 base v r) (hl : r.length ≤ 1000000) (hb : base ≤ w1.heap.size)
    (hs : a.eval s = v) (hx : a.eval x = .slice (some ⟨w1.heap.size, 0, none⟩) 1 1)
    (h : ∀ g cap2 w2, ownV w2 base (.slice (some ⟨g, 0, none⟩) (r ++ [c]).length cap2) (r ++ [c]) → (w1.alloc (.cells #[.int .i64 c.k, .int .i64 c.n, .string c.s] 62)).grownBy w2 v.ownBlock → (v.ownBlock = some g ∨ g = w1.heap.size + 1) → g < w2.heap.size → K (a.put o.dst (.slice (some ⟨g, 0, none⟩) (r.length + 1) cap2)) w2) :
    if Region.wanted o (yielded ops a.tmps) = true then Oper.wp Tryz.prog o a (w1.alloc (.cells #[.int .i64 c.k, .int .i64 c.n, .string c.s] 62)) K Q else E := by
  obtain ⟨i0, hi, hz0, hz1, hz2⟩ := info_parts Tryz.infoV
  refine step_append_lies _ hgd s x 43 hop base 62 i0 (.agg #[.int .i64 0, .int .i64 0, .string ⟨#[]⟩]) 3 32 Tryz.underlying43 hi hz0 hz1 hz2 rfl (by decide) v r.length (celCells r) hs
    (World.ownsRow.alloc ho _) ⟨w1.heap.size, 0, none⟩ 1 1 [.int .i64 c.k, .int .i64 c.n, .string c.s] hx rfl (cell_three_new _ _ _ _ _) (by intro u hu; simp at hu; rcases hu with rfl | rfl | rfl <;> rfl) (by decide) (by unfold maxLen; omega) (by omega) (by simp; omega) (w1.heap.size + 1) (by simp) ?_
  intro g cap2 w2 h2 h3 h4 h5
  refine h g cap2 w2 ?_ h3 h4 h5
  unfold ownV
  rw [List.length_append, celCells_snoc]
  exact h2
end Go.Proofs.YtcpanmaahhiioaaGreat.bt
