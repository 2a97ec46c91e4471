/- swapped: a list of its own, two of which are swapped. -/
import Derived.Test.YtcpanmaahhiioaaGreatBatSwap
import Derived.BigRegion
namespace Go.Proofs.YtcpanmaahhiioaaGreat.bt
open Go.ChangeShapes Go.WideShapes Go.ChangeAt Go.RowKit Go.Maps Go.WideMaps
open vl pl
set_option linter.unusedVariables false
set_option linter.unusedSimpArgs false
/-- what swapped answers -/
def swapRes (l : List Stm) (e : Ending) (w' : World) : Prop := ∃ ad c l', l'.Perm l ∧ e = .returned (.slice ad l.length c) ∧ stmsAt w' ad l'
theorem addr_ne {g i j : Nat} (h : i ≠ j) : (⟨g, i, none⟩ : Addr) ≠ ⟨g, j, none⟩ := fun e => h (by cases e; rfl)
/-- two cells are set -/
def set2 (w : World) (g o : Nat) (x y : Value) : World := (w.setCell ⟨g, o, none⟩ x).setCell ⟨g, o + 1, none⟩ y
theorem set2_same {w : World} {g o : Nat} {a b : Value} (x y : Value) (h1 : w.cell? ⟨g, o, none⟩ = some a) (h2 : w.cell? ⟨g, o + 1, none⟩ = some b) : (set2 w g o x y).cell? ⟨g, o, none⟩ = some x ∧ (set2 w g o x y).cell? ⟨g, o + 1, none⟩ = some y := by
  unfold set2
  refine ⟨?_, ?_⟩
  · rw [World.cell?_setCell_other _ _ _ _ (addr_ne (by omega)), World.cell?_setCell_same _ _ _ h1]
  · rw [World.cell?_setCell_same _ _ _ (by rw [World.cell?_setCell_other _ _ _ _ (addr_ne (by omega))]; exact h2)]
theorem set2_other (w : World) (g o : Nat) (x y : Value) (j : Nat) (h1 : o ≠ j) (h2 : o + 1 ≠ j) : (set2 w g o x y).cell? ⟨g, j, none⟩ = w.cell? ⟨g, j, none⟩ := by
  unfold set2
  rw [World.cell?_setCell_other _ _ _ _ (addr_ne h2), World.cell?_setCell_other _ _ _ _ (addr_ne h1)]
theorem set2_cells {w : World} {g n : Nat} {T H : Nat → Value} {i k : Nat} (hc : ∀ q, q < n → w.cell? ⟨g, q * 2, none⟩ = some (T q) ∧ w.cell? ⟨g, q * 2 + 1, none⟩ = some (H q)) (hi : i < n) (hk : k < n) :
    (∃ a, (set2 w g (i * 2) (T k) (H k)).cell? ⟨g, k * 2, none⟩ = some a) ∧ (∃ a, (set2 w g (i * 2) (T k) (H k)).cell? ⟨g, k * 2 + 1, none⟩ = some a) ∧
    ∀ q, q < n → (set2 (set2 w g (i * 2) (T k) (H k)) g (k * 2) (T i) (H i)).cell? ⟨g, q * 2, none⟩ = some (T (if q = k then i else if q = i then k else q)) ∧ (set2 (set2 w g (i * 2) (T k) (H k)) g (k * 2) (T i) (H i)).cell? ⟨g, q * 2 + 1, none⟩ = some (H (if q = k then i else if q = i then k else q)) := by
  have s1 := set2_same (T k) (H k) (hc i hi).1 (hc i hi).2
  have s0 : ∀ q, q < n → q ≠ i → (set2 w g (i * 2) (T k) (H k)).cell? ⟨g, q * 2, none⟩ = some (T q) ∧ (set2 w g (i * 2) (T k) (H k)).cell? ⟨g, q * 2 + 1, none⟩ = some (H q) := fun q hq hne => by
    rw [set2_other _ _ _ _ _ _ (by omega) (by omega), set2_other _ _ _ _ _ _ (by omega) (by omega)]
    exact hc q hq
  have s2 : ∃ a b, (set2 w g (i * 2) (T k) (H k)).cell? ⟨g, k * 2, none⟩ = some a ∧ (set2 w g (i * 2) (T k) (H k)).cell? ⟨g, k * 2 + 1, none⟩ = some b := by
    by_cases h : k = i
    · rw [h] at s1 ⊢; exact ⟨_, _, s1⟩
    · exact ⟨_, _, s0 k hk h⟩
  obtain ⟨a, b, e1, e2⟩ := s2
  refine ⟨⟨a, e1⟩, ⟨b, e2⟩, fun q hq => ?_⟩
  by_cases hqk : q = k
  · rw [if_pos hqk, hqk]
    exact set2_same (T i) (H i) e1 e2
  · rw [if_neg hqk, set2_other _ g (k * 2) _ _ (q * 2) (by omega) (by omega), set2_other _ g (k * 2) _ _ (q * 2 + 1) (by omega) (by omega)]
    by_cases hqi : q = i
    · rw [if_pos hqi, hqi]; exact s1
    · rw [if_neg hqi]; exact s0 q hq hqi
set_option maxRecDepth 100000 in
set_option maxHeartbeats 4000000 in
theorem swapped_any (a : Option Addr) (cap : Nat) (l : List Stm) (ca cb : Int) (w : World) (hl : stmsAt w a l) (hn : l.length ≤ 1000000) (a1 : -9223372036854775808 ≤ ca) (a2 : ca ≤ 9223372036854775807) (b1 : -9223372036854775808 ≤ cb) (b2 : cb ≤ 9223372036854775807) :
    Calls Tryz.prog 23 #[.slice a l.length cap, .int .i64 ca, .int .i64 cb] w fun e w' => swapRes l e w' ∧ Below w.heap.size w w' := by
  obtain ⟨i0, hi, hz0, hz1, hz2⟩ := info_parts infoS
  have HI : Hid (Tryz.prog.info? 53 = some i0 ∧ i0.zero = some (.agg #[.int .i64 0, .slice none 0 0]) ∧ i0.size = 2 ∧ i0.bytes = 32) := ⟨hi, hz0, hz1, hz2⟩
  clear hi hz0 hz1 hz2
  have KC : Hid (∀ (c : Int) (n : Nat) (w : World), -9223372036854775808 ≤ c → c ≤ 9223372036854775807 → 0 < n → n ≤ 9223372036854775807 → Calls Tryz.prog 68 #[.int .i64 c, .int .i64 n] w fun e w' => (∃ k : Nat, k < n ∧ e = .returned (.int .i64 k)) ∧ w' = w) := fun c n w => choose_any c n w
  have HOW : Hid ((w.alloc (.cells #[] 53)).ownsRow w.heap.size 53 2 (.slice (some ⟨w.heap.size, 0, none⟩) 0 0) 0 []) := World.ownsRow_made w #[] 0 (Nat.le_refl _) (Nat.zero_le _) rfl
  have hb0 : Below w.heap.size w (w.alloc (.cells #[] 53)) := (Below.refl _ _).alloc (Nat.le_refl _) _
  obtain ⟨n, hnn⟩ : ∃ n, l.length = n := ⟨_, rfl⟩
  have HN : Hid (l.length = n) := hnn
  cases hn0 : decide (n = 0) with
  | true =>
    have n0 : n = 0 := by simpa using hn0
    subst n0
    have h0 : l = [] := List.length_eq_zero_iff.1 hnn
    subst h0
    simp only [List.length_nil]
    clear hl hn hnn HN hn0
    cases a with
    | none =>
      go_enter Tryz.func23, Tryz.ntmps23
      go_wp2_with (at_builtin; refine ch.wpList_append_none rfl (.tmp 12) (.tmp 13) 26 rfl w.heap.size 53 i0 2 cap Tryz.underlying26 HI.out.1 _ _ _ rfl HOW.out rfl ?_)
      go_ret
      exact ⟨⟨_, _, [], List.Perm.refl _, rfl, fun i hi => by cases hi⟩, hb0⟩
    | some x =>
      go_enter Tryz.func23, Tryz.ntmps23
      go_wp2_with (at_builtin; (refine wpList_append_own _ rfl (.tmp 12) (.tmp 13) 26 rfl w.heap.size 53 i0 (.agg #[.int .i64 0, .slice none 0 0]) 2 32 Tryz.underlying26 HI.out.1 HI.out.2.1 HI.out.2.2.1 HI.out.2.2.2 rfl (by decide) _ _ _ rfl HOW.out x 0 cap [] rfl rfl (fun j u hu => by cases hu) (fun u hu => by cases hu) (by unfold maxLen; omega) (by omega) (by simp) ?_; intro v2 w3 hown3 hgrow3 hnil3; simp only [Nat.add_zero, List.append_nil] at hown3; obtain ⟨ad, c2, hv, _⟩ := ch.row_form hown3; subst hv))
      go_ret
      exact ⟨⟨_, _, [], List.Perm.refl _, rfl, fun i hi => by cases hi⟩, hb0.grown hgrow3 (by simp) (fun b hb => by cases hb; exact Nat.le_refl _)⟩
  | false =>
    have n0 : n ≠ 0 := by simpa using hn0
    have npos : 0 < n := by omega
    have nne : ((n : Int) == 0) = false := by rw [beq_eq_false_iff_ne]; omega
    obtain ⟨b, off, ra, rc, ea, _⟩ := hl 0 (by omega)
    subst ea
    obtain ⟨H, hh1, hh2⟩ := stms_heads hl
    rw [hnn] at hh1 hh2 hn
    have HH : Hid (∀ w', Below w.heap.size w w' → ∀ i, i < n → ∃ ra rc, H i = .slice ra (l.getD i default).r.length rc ∧ vl.rowAt w' ra (l.getD i default).r) := fun w' hb i hi => by
      obtain ⟨ra, rc, e, h⟩ := hh1 i hi
      exact ⟨ra, rc, e, rowAt_below h hb⟩
    have HCE : Hid (∀ j u, (flatS l H n)[j]? = some u → (w.alloc (.cells #[] 53)).cell? ((⟨b, off, none⟩ : Addr).add j) = some u) := fun j u hu => cell_later ((Below.refl _ _).alloc (Nat.le_refl _) _) (stms_cells hh2 j u hu)
    have HFO : Hid (∀ u ∈ flatS l H n, u.oneCell' = true) := flatS_one l H n (fun i hi => by obtain ⟨ra, rc, e, _⟩ := hh1 i hi; exact ⟨_, _, _, e⟩)
    rw [hnn]
    clear hh1 hh2 hl hnn hn0
    go_enter Tryz.func23, Tryz.ntmps23
    go_wp2_with (at_builtin; (refine wpList_append_own _ rfl (.tmp 12) (.tmp 13) 26 rfl w.heap.size 53 i0 (.agg #[.int .i64 0, .slice none 0 0]) 2 32 Tryz.underlying26 HI.out.1 HI.out.2.1 HI.out.2.2.1 HI.out.2.2.2 rfl (by decide) _ _ _ rfl HOW.out ⟨b, off, none⟩ n cap (flatS l H n) rfl (by rw [flatS_len]) HCE.out HFO.out (by unfold maxLen; omega) (by omega) (by simp) ?_; intro v2 w3 hown3 hgrow3 hnil3; rw [Nat.zero_add, List.nil_append] at hown3; obtain ⟨ad, c2, hv, hg⟩ := ch.row_form hown3; obtain ⟨g, rfl⟩ := hg npos; subst hv))
    have HW3 : Hid (Below w.heap.size w w3) := hb0.grown hgrow3 (by simp) (fun b hb => by cases hb; exact Nat.le_refl _)
    have hgb := ch.own_lt hown3 (g := g) rfl
    have HC3 : Hid (∀ q, q < n → w3.cell? ⟨g, q * 2, none⟩ = some (.int .i64 (l.getD q default).t) ∧ w3.cell? ⟨g, q * 2 + 1, none⟩ = some (H q)) := fun q hq => by
      have hc := World.ownsRow.cells hown3 (g := g) rfl
      obtain ⟨y1, y2⟩ := flatS_at l H n q hq
      have z1 := hc _ _ y1
      have z2 := hc _ _ y2
      rw [ch.addr_add, Nat.zero_add] at z1 z2
      exact ⟨z1, z2⟩
    have HFZ : Hid (∀ j, w3.frozen? ⟨g, j, none⟩ = false) := fun j => ch.own_frozen hown3 j
    clear hown3 hgrow3 hnil3
    refine (KC.out ca n w3 a1 a2 npos (by omega)).mono ?_
    rintro e w4 ⟨⟨i, hi, rfl⟩, rfl⟩
    go_wp2_with fail
    refine (KC.out cb n w4 b1 b2 npos (by omega)).mono ?_
    rintro e w5 ⟨⟨k, hk, rfl⟩, rfl⟩
    obtain ⟨ri, ci, ei, _⟩ := HH.out w5 HW3.out i hi
    obtain ⟨rk, ck, ek, _⟩ := HH.out w5 HW3.out k hk
    have x1 := (HC3.out i hi).1
    have x2 := (HC3.out i hi).2
    have y1 := (HC3.out k hk).1
    have y2 := (HC3.out k hk).2
    rw [ei] at x2
    rw [ek] at y2
    obtain ⟨ti, hti⟩ : ∃ z, (l.getD i default).t = z := ⟨_, rfl⟩
    obtain ⟨tk, htk⟩ : ∃ z, (l.getD k default).t = z := ⟨_, rfl⟩
    obtain ⟨li, hli⟩ : ∃ z, (l.getD i default).r.length = z := ⟨_, rfl⟩
    obtain ⟨lk, hlk⟩ : ∃ z, (l.getD k default).r.length = z := ⟨_, rfl⟩
    rw [hti] at x1
    rw [htk] at y1
    rw [hli] at x2 ei
    rw [hlk] at y2 ek
    have HTI : Hid (((l.getD i default).t = ti ∧ H i = .slice ri li ci) ∧ (l.getD k default).t = tk ∧ H k = .slice rk lk ck) := ⟨⟨hti, ei⟩, htk, ek⟩
    clear hti htk hli hlk ei ek
    have f1 := HFZ.out (i * 2)
    have f2 := HFZ.out (i * 2 + 1)
    have f3 := HFZ.out (k * 2)
    have f4 := HFZ.out (k * 2 + 1)
    have i1 : (0 : Int) ≤ (i : Int) := by omega
    have i2 : (i : Int) < (n : Int) := by omega
    have k1 : (0 : Int) ≤ (k : Int) := by omega
    have k2 : (k : Int) < (n : Int) := by omega
    go_wp2
    go_region
    · generalize hW6 : World.drew (World.alloc (World.alloc w5 _) _) = W6
      have hb6 : Below w5.heap.size w5 W6 := by subst hW6; exact Below.drew (((Below.refl _ _).alloc (Nat.le_refl _) _).alloc (by simp) _)
      have p1 : W6.cell? ⟨w5.heap.size, 0, none⟩ = some (.int .i64 ti) := by subst hW6; go_simp
      have p2 : W6.cell? ⟨w5.heap.size, 1, none⟩ = some (.slice ri li ci) := by subst hW6; go_simp
      have q1 : W6.cell? ⟨w5.heap.size + 1, 0, none⟩ = some (.int .i64 tk) := by subst hW6; go_simp
      have q2 : W6.cell? ⟨w5.heap.size + 1, 1, none⟩ = some (.slice rk lk ck) := by subst hW6; go_simp
      have u1 := cell_later hb6 x1
      have u2 := cell_later hb6 x2
      have v1 := cell_later hb6 y1
      have v2 := cell_later hb6 y2
      have e1 : W6.frozen? ⟨g, i * 2, none⟩ = false := by subst hW6; go_simp
      have e2 : W6.frozen? ⟨g, i * 2 + 1, none⟩ = false := by subst hW6; go_simp
      have e3 : W6.frozen? ⟨g, k * 2, none⟩ = false := by subst hW6; go_simp
      have e4 : W6.frozen? ⟨g, k * 2 + 1, none⟩ = false := by subst hW6; go_simp
      clear hW6
      have n1 : w5.heap.size ≠ g := by omega
      have n2 : w5.heap.size + 1 ≠ g := by omega
      have HC6 : Hid (∀ q, q < n → W6.cell? ⟨g, q * 2, none⟩ = some (.int .i64 (l.getD q default).t) ∧ W6.cell? ⟨g, q * 2 + 1, none⟩ = some (H q)) := fun q hq => ⟨cell_later hb6 (HC3.out q hq).1, cell_later hb6 (HC3.out q hq).2⟩
      have h2c := set2_cells (T := fun q => .int .i64 (l.getD q default).t) HC6.out hi hk
      simp only [HTI.out.1.1, HTI.out.1.2, HTI.out.2.1, HTI.out.2.2] at h2c
      obtain ⟨⟨z1, r1⟩, ⟨z2, r2⟩, h8⟩ := h2c
      have H8 : Hid (∀ q, q < n → _) := h8
      clear h8
      unfold set2 at r1 r2
      go_wp2
      go_ret
      have hb8 : Below w.heap.size w (set2 (set2 W6 g (i * 2) (.int .i64 tk) (.slice rk lk ck)) g (k * 2) (.int .i64 ti) (.slice ri li ci)) := by
        have hb7 := HW3.out.trans (hb6.mono HW3.out.size)
        have hg : w.heap.size ≤ g := hgb.1
        unfold set2
        exact (((hb7.setCell (p := ⟨g, i * 2, none⟩) hg _).setCell (p := ⟨g, i * 2 + 1, none⟩) hg _).setCell (p := ⟨g, k * 2, none⟩) hg _).setCell (p := ⟨g, k * 2 + 1, none⟩) hg _
      refine ⟨⟨some ⟨g, 0, none⟩, c2, swapL l i k, swapL_perm l i k (by rw [HN.out]; exact hi) (by rw [HN.out]; exact hk), by rw [HN.out]; rfl, ?_⟩, hb8⟩
      exact swap_at (w0 := w) HN.out hi hk (HH.out _ hb8) H8.out
    · generalize hW6 : World.drew (World.alloc (World.alloc w5 _) _) = W6
      have hb6 : Below w5.heap.size w5 W6 := by subst hW6; exact Below.drew (((Below.refl _ _).alloc (Nat.le_refl _) _).alloc (by simp) _)
      have p1 : W6.cell? ⟨w5.heap.size + 1, 0, none⟩ = some (.int .i64 ti) := by subst hW6; go_simp
      have p2 : W6.cell? ⟨w5.heap.size + 1, 1, none⟩ = some (.slice ri li ci) := by subst hW6; go_simp
      have q1 : W6.cell? ⟨w5.heap.size, 0, none⟩ = some (.int .i64 tk) := by subst hW6; go_simp
      have q2 : W6.cell? ⟨w5.heap.size, 1, none⟩ = some (.slice rk lk ck) := by subst hW6; go_simp
      have u1 := cell_later hb6 x1
      have u2 := cell_later hb6 x2
      have v1 := cell_later hb6 y1
      have v2 := cell_later hb6 y2
      have e1 : W6.frozen? ⟨g, i * 2, none⟩ = false := by subst hW6; go_simp
      have e2 : W6.frozen? ⟨g, i * 2 + 1, none⟩ = false := by subst hW6; go_simp
      have e3 : W6.frozen? ⟨g, k * 2, none⟩ = false := by subst hW6; go_simp
      have e4 : W6.frozen? ⟨g, k * 2 + 1, none⟩ = false := by subst hW6; go_simp
      clear hW6
      have n1 : w5.heap.size + 1 ≠ g := by omega
      have n2 : w5.heap.size ≠ g := by omega
      have HC6 : Hid (∀ q, q < n → W6.cell? ⟨g, q * 2, none⟩ = some (.int .i64 (l.getD q default).t) ∧ W6.cell? ⟨g, q * 2 + 1, none⟩ = some (H q)) := fun q hq => ⟨cell_later hb6 (HC3.out q hq).1, cell_later hb6 (HC3.out q hq).2⟩
      have h2c := set2_cells (T := fun q => .int .i64 (l.getD q default).t) HC6.out hi hk
      simp only [HTI.out.1.1, HTI.out.1.2, HTI.out.2.1, HTI.out.2.2] at h2c
      obtain ⟨⟨z1, r1⟩, ⟨z2, r2⟩, h8⟩ := h2c
      have H8 : Hid (∀ q, q < n → _) := h8
      clear h8
      unfold set2 at r1 r2
      go_wp2
      go_ret
      have hb8 : Below w.heap.size w (set2 (set2 W6 g (i * 2) (.int .i64 tk) (.slice rk lk ck)) g (k * 2) (.int .i64 ti) (.slice ri li ci)) := by
        have hb7 := HW3.out.trans (hb6.mono HW3.out.size)
        have hg : w.heap.size ≤ g := hgb.1
        unfold set2
        exact (((hb7.setCell (p := ⟨g, i * 2, none⟩) hg _).setCell (p := ⟨g, i * 2 + 1, none⟩) hg _).setCell (p := ⟨g, k * 2, none⟩) hg _).setCell (p := ⟨g, k * 2 + 1, none⟩) hg _
      refine ⟨⟨some ⟨g, 0, none⟩, c2, swapL l i k, swapL_perm l i k (by rw [HN.out]; exact hi) (by rw [HN.out]; exact hk), by rw [HN.out]; rfl, ?_⟩, hb8⟩
      exact swap_at (w0 := w) HN.out hi hk (HH.out _ hb8) H8.out
end Go.Proofs.YtcpanmaahhiioaaGreat.bt
