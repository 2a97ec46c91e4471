/- view: the view of which these are the counts, in memory of its own. -/
import Derived.Test.YtkjiaeolodemlafChgEach
import Derived.Laws.MakeOwn
namespace Go.Proofs.Ytkjiaeolodemlaf.ch
open Go.ChangeShapes Go.WideShapes Go.ChangeAt Go.RowKit Go.Maps Go.WideMaps
open vl
set_option linter.unusedVariables false
set_option linter.unusedSimpArgs false

theorem ob {b n c x : Nat} (h : (Value.slice (some ⟨b, 0, none⟩) n c).ownBlock = some x) : x = b := by cases h; rfl

set_option maxRecDepth 10000 in
set_option maxHeartbeats 4000000 in
theorem view_any (B nn : Nat) (out : List Cnt) (w : World) (hm : cmap w B nn (kvOf out)) (hr : rising (kvOf out)) (hok : ∀ c ∈ out, rowOk c.r) (hlen : out.length ≤ 100000) :
    Calls Try.prog 38 #[.map (some B)] w fun e w' => (∃ ad cap, e = .returned (.slice ad out.length cap) ∧ viewAt w' ad out) ∧ Below w.heap.size w w' := by
  obtain ⟨i0, hi, hz0, hz1, hz2⟩ := info_parts infoC
  obtain ⟨wm, hmk, hown, hgr⟩ := run_make_own (P := Try.prog) w w.heap.size 22 51 i0 (.agg #[.slice none 0 0, .int .i64 0]) 2 Try.underlying22 hi hz0 hz1 .i64 .i64 out.length (by rw [hz2]; omega) (by unfold maxLen; omega) (Nat.le_refl _)
  have hbm : Below w.heap.size w wm := (Below.refl _ _).grown hgr (Nat.le_refl _) (fun k hk => by cases hk)
  have hvlt : w.heap.size < wm.heap.size := (own_lt hown (g := w.heap.size) rfl).2
  have hBlt := cmap_lt hm
  have HVS : Hid (VS (wm.alloc (.cells #[.slice (some ⟨w.heap.size, 0, none⟩) 0 out.length] 22)) wm.heap.size w.heap.size (.slice (some ⟨w.heap.size, 0, none⟩) 0 out.length) []) := by
    refine ⟨by go_simp, by go_simp, fun e => by have := ob e; omega, by simp; omega, [], rfl, own_below hown ((Below.refl _ _).alloc (Nat.le_refl _) _), fun i hi => absurd hi (Nat.not_lt_zero i)⟩
  have HM2 : Hid (cmap (wm.alloc (.cells #[.slice (some ⟨w.heap.size, 0, none⟩) 0 out.length] 22)) B nn (kvOf out)) := cmap_alloc (cmap_below hm hbm) _
  have KE : Hid (Calls Try.prog 41 #[.map (some B), .func (.func 49) #[] #[.pointer (some ⟨wm.heap.size, 0, none⟩)]] (wm.alloc (.cells #[.slice (some ⟨w.heap.size, 0, none⟩) 0 out.length] 22))
      fun e w' => e = .returned (.tuple #[]) ∧ ∃ v, VS w' wm.heap.size w.heap.size v out ∧ fr wm.heap.size (Value.slice (some ⟨w.heap.size, 0, none⟩) 0 out.length).ownBlock (wm.alloc (.cells #[.slice (some ⟨w.heap.size, 0, none⟩) 0 out.length] 22)) w') :=
    each_view B nn out wm.heap.size w.heap.size _ _ HM2.out hr hok hlen HVS.out (by omega) (fun e => by have := ob e; omega)
  have HM : Hid (cmap w B nn (kvOf out)) := hm
  have hsz : Hid (Maps.size (toD (kvOf out)) = out.length) := by show Maps.size (toD (kvOf out)) = out.length; rw [toD_size, kvOf_len]
  obtain ⟨n, hn⟩ : ∃ n, out.length = n := ⟨_, rfl⟩
  rw [hn] at hmk KE hsz hlen ⊢
  have HN : Hid (out.length = n) := hn
  clear hi hz0 hz1 hz2 hown hgr hm hr hok HVS HM2 hn
  go_enter Try.func38, Try.ntmps38
  go_wp2_with (first
    | (at_len; refine wpList_len_own _ rfl (.tmp 4) 40 rfl 9 3 Try.underlying40 _ B nn _ rfl HM.out ?_; rw [hsz.out])
    | (go_at_call 41; refine KE.out.mono ?_; rintro e w2 ⟨rfl, v, hvs, hfr⟩; have hcv := hvs.cell))
  obtain ⟨ad, cap, hv⟩ := VS_len hvs
  rw [HN.out] at hv
  subst hv
  go_ret
  exact ⟨⟨ad, cap, rfl, VS_view (cap := cap) (by rw [HN.out]; exact hvs)⟩, fr_below (hbm.alloc hbm.size _) hfr (by omega) (fun b hb => by have := ob hb; omega) (by simp; omega)⟩
end Go.Proofs.Ytkjiaeolodemlaf.ch
