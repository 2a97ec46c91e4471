/- The document's Own: a view of its own. -/
import Derived.Test.YtkjiaeolodemlaeChgMore
namespace Go.Proofs.Ytkjiaeolodemlae.ch
open Go.ChangeShapes Go.WideShapes Go.ChangeAt Go.RowKit Go.Maps Go.WideMaps
open vl
set_option linter.unusedVariables false
set_option linter.unusedSimpArgs false

theorem MV_snoc {w w1 w2 : World} {base : Nat} {v : Value} {L : PL} {r : List Cel} {n : Int} {ad : Option Addr} {cap g cap2 : Nat} (h : MV w base v L) (hb1 : Below w.drew.heap.size w.drew w1) (hov : ownV w1 w.heap.size (.slice ad r.length cap) r)
    (hown2 : w2.ownsRow base 66 2 (.slice (some ⟨g, 0, none⟩) (L.length + 1) cap2) (L.length + 1) (flatP L ++ [.slice ad r.length cap, .int .i64 n])) (hg2 : (w1.alloc (.cells #[.slice ad r.length cap, .int .i64 n] 66)).grownBy w2 v.ownBlock) (hat : v.ownBlock = some g ∨ g = w1.heap.size + 1) :
    MV w2 base (.slice (some ⟨g, 0, none⟩) (L.length + 1) cap2) (L ++ [(.slice ad r.length cap, ⟨r, n⟩)]) ∧ Below base w w2 := by
  have hlow := h.low
  have hs1 : w.heap.size ≤ w1.heap.size := hb1.size
  have hs2 : w1.heap.size + 1 ≤ w2.heap.size := by have := hg2.size; simpa using this
  have hvlt : ∀ b, v.ownBlock = some b → base ≤ b ∧ b < w.heap.size := fun b hb => own_lt h.own hb
  have hblk : ∀ b, b < w1.heap.size → v.ownBlock ≠ some b → w2.heap[b]? = w1.heap[b]? := fun b hb ho => by
    rw [hg2.block b (by simp; omega) (fun e => ho e.symm)]
    exact Below.heap_alloc _ _ b hb
  have hbw : Below base w w2 := by
    have hlow1 : base ≤ w.drew.heap.size := h.low
    have hb0 : Below base w.drew w2 := ((hb1.mono hlow1).alloc (Nat.le_trans hlow hs1) (.cells #[.slice ad r.length cap, .int .i64 n] 66)).grown hg2 (by simp; omega) (fun b hb => (hvlt b hb).1)
    exact ((Below.refl base w).drew).trans hb0
  refine ⟨⟨Nat.le_trans hlow hbw.size, ?_, ?_⟩, hbw⟩
  · rw [List.length_append, flatP_app]; exact hown2
  · intro p hp
    rcases List.mem_append.1 hp with h1 | h1
    · refine rowOne_keep (h.rows p h1) (fun b hb hne => (hblk b (by omega) hne).trans (hb1.block b hb)) (by omega) ?_
      intro b hb hne e
      have hbg : g = b := by cases e; rfl
      rcases hat with h2 | h2
      · exact hne (by rw [← hbg]; exact h2)
      · omega
    · rw [List.mem_singleton.1 h1]
      refine ⟨ad, cap, rfl, ?_, ?_⟩
      · refine rowAt_block (cap := cap) (ownV_row hov) (fun b hbk hlt => hblk b hlt (fun e => ?_))
        have h3 := own_lt hov hbk
        have h4 := hvlt b e
        omega
      · intro b hbk
        have h3 := own_lt hov hbk
        refine ⟨fun e => ?_, by omega⟩
        have hbg : g = b := by cases e; rfl
        rcases hat with h2 | h2
        · have h4 := hvlt g h2; omega
        · omega
theorem step_appP {ops : Array Oper} {o : Oper} {a : Act} {K : Act → World → Prop} {Q : Exit → Act → World → Prop} {E : Prop} (hgd : o.guard = none) (s x : Operand)
    (hop : o.op = .call { callee := .builtin .append, args := #[s, x], argTypes := #[35, 35] })
    (base : Nat) (v : Value) (L : PL) (n : Int) (ad : Option Addr) (rl cap : Nat) (w1 : World) (ln : Nat) (ho : w1.ownsRow base 66 2 v ln (flatP L)) (hl : ln ≤ 1000000) (hb : base ≤ w1.heap.size)
    (hs : a.eval s = v) (hx : a.eval x = .slice (some ⟨w1.heap.size, 0, none⟩) 1 1)
    (h : ∀ g cap2 w2, w2.ownsRow base 66 2 (.slice (some ⟨g, 0, none⟩) (ln + 1) cap2) (ln + 1) (flatP L ++ [.slice ad rl cap, .int .i64 n]) → (w1.alloc (.cells #[.slice ad rl cap, .int .i64 n] 66)).grownBy w2 v.ownBlock → (v.ownBlock = some g ∨ g = w1.heap.size + 1) → g < w2.heap.size → K (a.put o.dst (.slice (some ⟨g, 0, none⟩) (ln + 1) cap2)) w2) :
    if Region.wanted o (yielded ops a.tmps) = true then Oper.wp Try.prog o a (w1.alloc (.cells #[.slice ad rl cap, .int .i64 n] 66)) K Q else E := by
  obtain ⟨i0, hi, hz0, hz1, hz2⟩ := info_parts infoC
  exact step_append_lies _ hgd s x 35 hop base 66 i0 (.agg #[.slice none 0 0, .int .i64 0]) 2 32 Try.underlying35 hi hz0 hz1 hz2 rfl (by decide) v ln (flatP L) hs
    (ho.alloc _) ⟨w1.heap.size, 0, none⟩ 1 1 [.slice ad rl cap, .int .i64 n] hx rfl (cell_two_new _ _ _ _) (by intro u hu; simp at hu; rcases hu with rfl | rfl <;> rfl) (by decide) (by unfold maxLen; omega) (by omega) (by simp; omega) (w1.heap.size + 1) (by simp) h

set_option maxRecDepth 100000 in
set_option maxHeartbeats 8000000 in
theorem own_any (a : Option Addr) (cap : Nat) (v : List Cnt) (w : World) (hv : viewAt w a v) (hok : ∀ c ∈ v, rowOk c.r) (hl : v.length ≤ 4096) :
    Calls Try.prog 35 #[.slice a v.length cap] w fun e w' => (∃ v' L, outOf L = v ∧ e = .returned v' ∧ MV w' w.heap.size v' L) ∧ Below w.heap.size w w' := by
  have HV : Hid (viewAt w a v) := hv
  have HOK : Hid (∀ c ∈ v, rowOk c.r) := hok
  obtain ⟨n, hn⟩ : ∃ n, v.length = n := ⟨_, rfl⟩
  have HN : Hid (v.length = n) := hn
  rw [hn] at hl ⊢
  clear hv hok hn
  go_enter Try.func35, Try.ntmps35
  go_wp2
  go_loopw [3, 4] (fun x i wr => ∃ (k : Nat) (L : PL), k ≤ n ∧ i = .int .i64 k ∧ outOf L = v.take k ∧ MV wr w.heap.size x L ∧ Below w.heap.size w wr) (fun _ i _ => n - (intOf i).toNat)
  case atStart => exact ⟨0, [], Nat.zero_le _, rfl, rfl, ⟨Nat.le_refl _, World.ownsRow_nil _ _ _ _, fun p hp => by cases hp⟩, Below.refl _ _⟩
  case round =>
    obtain ⟨k, L, hk, rfl, hout, hmv, hnx⟩ := hrel
    have HOUT : Hid (outOf L = v.take k) := hout
    have HMV : Hid (MV wr w.heap.size u3 L) := hmv
    clear hout hmv
    by_cases hlt : k < n
    · have hkv : k < v.length := by rw [HN.out]; exact hlt
      obtain ⟨b, o, ra, rc, e, x1, x2, x3⟩ := HV.out k hkv
      subst e
      have HRK : Hid (rowOk (v.getD k default).r) := HOK.out _ (mem_getD hkv)
      have HT : Hid (v.take (k + 1) = v.take k ++ [v.getD k default]) := takeV v k hkv
      have q1 := cell_later hnx x1
      have q3 := cell_later hnx x3
      have HR : Hid (vl.rowAt wr ra (v.getD k default).r) := rowAt_below x2 hnx
      obtain ⟨⟨r, m⟩, hcv⟩ : ∃ c, v.getD k default = c := ⟨_, rfl⟩
      rw [hcv] at q1 q3 HR HRK HT
      dsimp only at q1 q3 HR HRK HT
      obtain ⟨rl, hrl⟩ : ∃ z, r.length = z := ⟨_, rfl⟩
      have HRL : Hid (r.length = rl) := hrl
      have KC : Hid (Calls Try.prog 51 #[.slice ra rl rc] wr.drew fun e w' => (∃ ad c, e = .returned (.slice ad rl c) ∧ ownV w' wr.drew.heap.size (.slice ad rl c) r) ∧ Below wr.drew.heap.size wr.drew w') := by
        have h := copy_any ra rc r wr.drew (rowAt_below HR.out (Below.refl _ _).drew) (by have := HRK.out.1; omega)
        rw [hrl] at h; exact h
      rw [hrl] at q1
      clear x1 x2 x3 hcv hrl
      have hLl : L.length = k := by
        have := congrArg List.length HOUT.out
        rw [out_len, List.length_take, HN.out] at this
        omega
      have HLL : Hid (L.length = k) := hLl
      have HON : Hid (wr.ownsRow w.heap.size 66 2 u3 k (flatP L)) := by
        have h := HMV.out.own
        rw [hLl] at h; exact h
      have hlow := HMV.out.low
      clear hLl
      have i1 : (0 : Int) ≤ (k : Int) := by omega
      have i2 : (k : Int) < (n : Int) := by omega
      go_wp2
      go_region_law (first
        | (refine step_appP (by rfl) (.tmp 11) (.tmp 24) (by rfl) w.heap.size u3 L m ad rl cap1 w1 k HO1.out (by omega) (Nat.le_trans hlow hb1.size) (by simp [Act.eval, Act.put]) (by simp [Act.eval, Act.put]) ?_; intro g cap2 w2 hown2 hgrow2 hat2 hlt2)
        | (go_simp; go_at_call 51; refine KC.out.mono ?_; rintro e w1 ⟨⟨ad, cap1, rfl, hov⟩, hb1⟩; have q3a := cell_later (w := wr.drew) hb1 q3; have HO1 : Hid (w1.ownsRow w.heap.size 66 2 u3 k (flatP L)) := own_below HON.out.drew hb1))
      all_goals
        have HST := MV_snoc (r := r) (n := m) (ad := ad) (cap := cap1) (g := g) (cap2 := cap2) (w1 := w1) (w2 := w2) HMV.out hb1 (by rw [HRL.out]; exact hov) (by rw [HLL.out, HRL.out]; exact hown2) (by rw [HRL.out]; exact hgrow2) hat2
        rw [HLL.out] at HST
        go_wp2
        go_roundw
        case rel => exact ⟨k + 1, _, by omega, by go_num, by rw [HT.out, ← HOUT.out]; simp [outOf], HST.1, hnx.trans HST.2⟩
        case measure => simp [intOf]; omega
    · have HT : Hid (v.take k = v) := List.take_of_length_le (by rw [HN.out]; omega)
      go_wp2
      go_ret
      exact ⟨⟨_, L, by rw [HOUT.out, HT.out], rfl, HMV.out⟩, hnx⟩
end Go.Proofs.Ytkjiaeolodemlae.ch
