/- view, over again: and no row of the answer is longer than its capacity. -/
import Derived.Test.YtcpanmaahhiioaaGreatMgChgB
namespace Go.Proofs.YtcpanmaahhiioaaGreat.ch
open Go.ChangeShapes Go.WideShapes Go.ChangeAt Go.RowKit Go.Maps Go.WideMaps
open vl
set_option linter.unusedVariables false
set_option linter.unusedSimpArgs false
/-- the rows' capacities reach -/
def viewCap (w : World) (a : Option Addr) (v : List Cnt) : Prop := ∀ i, i < v.length → ∀ b off ra rl rc, a = some ⟨b, off, none⟩ → w.cell? ⟨b, off + i * 2, none⟩ = some (.slice ra rl rc) → rl ≤ rc
def viewAtC (w : World) (a : Option Addr) (v : List Cnt) : Prop := viewAt w a v ∧ viewCap w a v
theorem viewAtC_below {w w' : World} {a : Option Addr} {v : List Cnt} (h : viewAtC w a v) (hb : Below w.heap.size w w') : viewAtC w' a v := by
  refine ⟨viewAt_below h.1 hb, fun i hi b off ra rl rc e hc => ?_⟩
  obtain ⟨b', o', ra', rc', e', x1, _⟩ := h.1 i hi
  rw [e] at e'
  cases e'
  have := cell_later hb x1
  rw [hc] at this
  cases this
  exact h.2 i hi b off _ _ _ e x1
theorem own_cap {w : World} {base : Nat} {e : TypeId} {size : Nat} {ad : Option Addr} {n m cap : Nat} {xs : List Value} (h : w.ownsRow base e size (.slice ad n cap) m xs) : n ≤ cap := by
  rcases h.2 with ⟨hv, h0⟩ | ⟨g, c, cur, hv, _, _, hc, _⟩
  · cases hv; exact Nat.le_refl _
  · cases hv; exact hc
theorem VS_viewC {w : World} {C base : Nat} {ad : Option Addr} {cap : Nat} {out : List Cnt} (h : VS w C base (.slice ad out.length cap) out) : viewAtC w ad out := by
  refine ⟨VS_view h, fun i hi b off ra rl rc e hcell => ?_⟩
  obtain ⟨l, hll, hlo, hlr⟩ := h.rows
  obtain ⟨e1, ra', rc', e2, e3, _⟩ := hlr i hi
  rcases hlo.2 with ⟨hv, h0⟩ | ⟨g, cap', cur, hv, h1, hg, h2⟩
  · rw [hll] at h0; omega
  · injection hv with ha _ _
    subst ha
    cases e
    have hc := World.ownsRow.cells hlo (g := b) rfl
    have hli : i < l.length := by omega
    have f0 := flat_at l i hli
    have := hc _ _ f0.1
    rw [addr_add b, e2] at this
    rw [hcell] at this
    cases this
    exact own_cap e3
set_option maxRecDepth 10000 in
set_option maxHeartbeats 4000000 in
theorem view_anyC (B nn : Nat) (out : List Cnt) (w : World) (hm : cmap w B nn (kvOf out)) (hr : rising (kvOf out)) (hok : ∀ c ∈ out, rowOk c.r) (hlen : out.length ≤ 100000) :
    Calls Tryz.prog 67 #[.map (some B)] w fun e w' => (∃ ad cap, e = .returned (.slice ad out.length cap) ∧ viewAtC w' ad out) ∧ Below w.heap.size w w' := by
  obtain ⟨i0, hi, hz0, hz1, hz2⟩ := info_parts infoC
  obtain ⟨wm, hmk, hown, hgr⟩ := run_make_own (P := Tryz.prog) w w.heap.size 27 45 i0 (.agg #[.slice none 0 0, .int .i64 0]) 2 Tryz.underlying27 hi hz0 hz1 .i64 .i64 out.length (by rw [hz2]; omega) (by unfold maxLen; omega) (Nat.le_refl _)
  have hbm : Below w.heap.size w wm := (Below.refl _ _).grown hgr (Nat.le_refl _) (fun k hk => by cases hk)
  have hvlt : w.heap.size < wm.heap.size := (own_lt hown (g := w.heap.size) rfl).2
  have hBlt := cmap_lt hm
  have HVS : Hid (VS (wm.alloc (.cells #[.slice (some ⟨w.heap.size, 0, none⟩) 0 out.length] 27)) wm.heap.size w.heap.size (.slice (some ⟨w.heap.size, 0, none⟩) 0 out.length) []) := by
    refine ⟨by go_simp, by go_simp, fun e => by have := ob e; omega, by simp; omega, [], rfl, own_below hown ((Below.refl _ _).alloc (Nat.le_refl _) _), fun i hi => absurd hi (Nat.not_lt_zero i)⟩
  have HM2 : Hid (cmap (wm.alloc (.cells #[.slice (some ⟨w.heap.size, 0, none⟩) 0 out.length] 27)) B nn (kvOf out)) := cmap_alloc (cmap_below hm hbm) _
  have KE : Hid (Calls Tryz.prog 98 #[.map (some B), .func (.func 99) #[] #[.pointer (some ⟨wm.heap.size, 0, none⟩)]] (wm.alloc (.cells #[.slice (some ⟨w.heap.size, 0, none⟩) 0 out.length] 27))
      fun e w' => e = .returned (.tuple #[]) ∧ ∃ v, VS w' wm.heap.size w.heap.size v out ∧ fr wm.heap.size (Value.slice (some ⟨w.heap.size, 0, none⟩) 0 out.length).ownBlock (wm.alloc (.cells #[.slice (some ⟨w.heap.size, 0, none⟩) 0 out.length] 27)) w') :=
    each_view B nn out wm.heap.size w.heap.size _ _ HM2.out hr hok hlen HVS.out (by omega) (fun e => by have := ob e; omega)
  have HM : Hid (cmap w B nn (kvOf out)) := hm
  have hsz : Hid (Maps.size (toD (kvOf out)) = out.length) := by show Maps.size (toD (kvOf out)) = out.length; rw [toD_size, kvOf_len]
  obtain ⟨n, hn⟩ : ∃ n, out.length = n := ⟨_, rfl⟩
  rw [hn] at hmk KE hsz hlen ⊢
  have HN : Hid (out.length = n) := hn
  clear hi hz0 hz1 hz2 hown hgr hm hr hok HVS HM2 hn
  go_enter Tryz.func67, Tryz.ntmps67
  go_wp2_with (first
    | (at_len; refine wpList_len_own _ rfl (.tmp 4) 100 rfl 9 3 Tryz.underlying100 _ B nn _ rfl HM.out ?_; rw [hsz.out])
    | (go_at_call 98; refine KE.out.mono ?_; rintro e w2 ⟨rfl, v, hvs, hfr⟩; have hcv := hvs.cell))
  obtain ⟨ad, cap, hv⟩ := VS_len hvs
  rw [HN.out] at hv
  subst hv
  go_ret
  exact ⟨⟨ad, cap, rfl, VS_viewC (cap := cap) (by rw [HN.out]; exact hvs)⟩, fr_below (hbm.alloc hbm.size _) hfr (by omega) (fun b hb => by have := ob hb; omega) (by simp; omega)⟩
end Go.Proofs.YtcpanmaahhiioaaGreat.ch
