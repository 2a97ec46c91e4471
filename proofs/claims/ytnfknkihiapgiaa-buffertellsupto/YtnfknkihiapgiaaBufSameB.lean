/- The document's SameBuffers, of what is the same. -/
import Derived.Test.YtnfknkihiapgiaaBufSame
import Derived.Test.YtnfknkihiapgiaaBufSet
import Derived.Deep.RegionHeld3
namespace Go.Proofs.Ytnfknkihiapgiaa.bf
open Go.ChangeShapes Go.WideShapes Go.ChangeAt Go.RowKit
open vl
set_option linter.unusedVariables false
set_option linter.unusedSimpArgs false
attribute [local go_sem] Oper.semAt_some
theorem part_same {w : World} {b : Buf} {x x' : BX} (h : bufAt w b x) (h' : bufAt w b x') (hl : ∀ l ∈ partsB b, l.length ≤ 9223372036854775807) (hr : ∀ y ∈ entsB b, y.row.length ≤ 9223372036854775807) (i : Nat) (hi : i < b.runs.length) :
    Calls Try.prog 24 #[hdV (x.rs.getD i default).1, hdV (x'.rs.getD i default).1] w fun e w' => e = .returned (.bool true) ∧ Below w.heap.size w w' := by
  have g1 : x.rs.getD i default ∈ x.m :: x.rs := List.mem_cons_of_mem _ (mem_getD (by rw [h.rlen]; exact hi))
  have g2 : x'.rs.getD i default ∈ x'.m :: x'.rs := List.mem_cons_of_mem _ (mem_getD (by rw [h'.rlen]; exact hi))
  have e1 := h.runs i hi
  have e2 := h'.runs i hi
  have hm : b.runs.getD i default ∈ partsB b := List.mem_cons_of_mem _ (mem_getD hi)
  have k := sameE_eq (x.rs.getD i default).1.1 (x'.rs.getD i default).1.1 (x.rs.getD i default).1.2.2 (x'.rs.getD i default).1.2.2 _ _ (b.runs.getD i default) w (h.ems _ g1) e1 (h'.ems _ g2) e2 (hl _ hm) (fun y hy => hr y (List.mem_flatten.2 ⟨_, hm, hy⟩))
  unfold hdV
  rw [(h.len _ g1).1, (h'.len _ g2).1, e1.1, e2.1]
  exact k
theorem mem_same {w : World} {b : Buf} {x x' : BX} (h : bufAt w b x) (h' : bufAt w b x') (hl : ∀ l ∈ partsB b, l.length ≤ 9223372036854775807) (hr : ∀ y ∈ entsB b, y.row.length ≤ 9223372036854775807) :
    Calls Try.prog 24 #[hdV x.m.1, hdV x'.m.1] w fun e w' => e = .returned (.bool true) ∧ Below w.heap.size w w' := by
  have g1 : x.m ∈ x.m :: x.rs := List.mem_cons_self ..
  have g2 : x'.m ∈ x'.m :: x'.rs := List.mem_cons_self ..
  have hm : b.mem ∈ partsB b := List.mem_cons_self ..
  have k := sameE_eq x.m.1.1 x'.m.1.1 x.m.1.2.2 x'.m.1.2.2 _ _ b.mem w (h.ems _ g1) h.mem (h'.ems _ g2) h'.mem (hl _ hm) (fun y hy => hr y (List.mem_flatten.2 ⟨_, hm, hy⟩))
  unfold hdV
  rw [(h.len _ g1).1, (h'.len _ g2).1, h.mem.1, h'.mem.1]
  exact k
set_option maxRecDepth 100000 in
set_option maxHeartbeats 8000000 in
theorem sameB_eq (b : Buf) (x x' : BX) (w : World) (h : bufAt w b x) (h' : bufAt w b x') (hl : ∀ l ∈ partsB b, l.length ≤ 9223372036854775807) (hr : ∀ y ∈ entsB b, y.row.length ≤ 9223372036854775807) :
    Calls Try.prog 13 #[bufV b x, bufV b x'] w fun e w' => e = .returned (.bool true) ∧ Below w.heap.size w w' := by
  have KM : Hid (∀ w1, Below w.heap.size w w1 → Calls Try.prog 24 #[hdV x.m.1, hdV x'.m.1] w1 fun e w' => e = .returned (.bool true) ∧ Below w1.heap.size w1 w') := fun w1 hb => mem_same (bufAt_below h hb) (bufAt_below h' hb) hl hr
  have KR : Hid (∀ i w1, i < b.runs.length → Below w.heap.size w w1 → Calls Try.prog 24 #[hdV (x.rs.getD i default).1, hdV (x'.rs.getD i default).1] w1 fun e w' => e = .returned (.bool true) ∧ Below w1.heap.size w1 w') := fun i w1 hi hb => part_same (bufAt_below h hb) (bufAt_below h' hb) hl hr i hi
  have H1 : Hid (hdsAt w x.ra (x.rs.map (·.1))) := h.hds
  have H2 : Hid (hdsAt w x'.ra (x'.rs.map (·.1))) := h'.hds
  have hn1 := h.rlen
  have hn2 := h'.rlen
  have hfew := h.few
  clear h h' hl hr
  obtain ⟨ra, rc, ⟨⟨m1, m2, m3⟩, ml⟩, rs⟩ := x
  obtain ⟨rb, rd, ⟨⟨q1, q2, q3⟩, ql⟩, rt⟩ := x'
  obtain ⟨lim, mem, runs⟩ := b
  unfold bufV hdV
  unfold hdV at KM
  dsimp only at KM KR H1 H2 hn1 hn2 hfew ⊢
  obtain ⟨n, hn⟩ : ∃ n, runs.length = n := ⟨_, rfl⟩
  have HN : Hid (rs.length = n ∧ rt.length = n) := ⟨by rw [hn1, hn], by rw [hn2, hn]⟩
  rw [hn] at KR hn1 hn2
  rw [hn1] at hfew
  rw [hn1, hn2]
  clear hn hn1 hn2
  have hb0 : Below w.heap.size w ((w.alloc (.cells #[.int .i64 lim, .slice m1 m2 m3, .slice ra n rc] 25)).alloc (.cells #[.int .i64 lim, .slice q1 q2 q3, .slice rb n rd] 25)) := by
    repeat (first | exact Below.refl _ _ | (refine Below.alloc ?_ (by simp <;> omega) _))
  have k1 : ((w.alloc (.cells #[.int .i64 lim, .slice m1 m2 m3, .slice ra n rc] 25)).alloc (.cells #[.int .i64 lim, .slice q1 q2 q3, .slice rb n rd] 25)).cell? ⟨w.heap.size, 2, none⟩ = some (.slice ra n rc) := by go_simp
  have k2 : ((w.alloc (.cells #[.int .i64 lim, .slice m1 m2 m3, .slice ra n rc] 25)).alloc (.cells #[.int .i64 lim, .slice q1 q2 q3, .slice rb n rd] 25)).cell? ⟨w.heap.size + 1, 2, none⟩ = some (.slice rb n rd) := by go_simp
  go_enter Try.func13, Try.ntmps13
  go_wp2_with fail
  refine (KM.out _ hb0).mono ?_
  rintro e w1 ⟨rfl, hb1⟩
  have c1 := cell_later hb1 k1
  have c2 := cell_later hb1 k2
  have lw1 : w.heap.size < w1.heap.size := World.block_lt_of_cell? _ _ c1
  have lw2 : w.heap.size + 1 < w1.heap.size := World.block_lt_of_cell? _ _ c2
  have hbw : Below w.heap.size w w1 := hb0.trans (hb1.mono hb0.size)
  clear k1 k2 hb0 hb1
  go_wp2
  go_loopw [5] (fun i wr => ∃ k : Nat, k ≤ n ∧ i = .int .i64 k ∧ Below w1.heap.size w1 wr) (fun i _ => n - (intOf i).toNat)
  case atStart => exact ⟨0, Nat.zero_le _, rfl, Below.refl _ _⟩
  case round =>
    obtain ⟨k, hk, rfl, hnx⟩ := hrel
    have d1 := cell_later hnx c1
    have d2 := cell_later hnx c2
    have hbr := hbw.trans (hnx.mono hbw.size)
    have lr1 : w.heap.size < wr.heap.size := World.block_lt_of_cell? _ _ d1
    have lr2 : w.heap.size + 1 < wr.heap.size := World.block_lt_of_cell? _ _ d2
    by_cases hlt : k < n
    · obtain ⟨b1, o1, e1, x1⟩ := H1.out k (by rw [List.length_map, HN.out.1]; exact hlt)
      obtain ⟨b2, o2, e2, y1⟩ := H2.out k (by rw [List.length_map, HN.out.2]; exact hlt)
      subst e1 e2
      have z1 := cell_later hbr x1
      have u1 := cell_later hbr y1
      have ee1 : (rs.map (·.1)).getD k (none, 0, 0) = (rs.getD k default).1 := by rw [List.getD_eq_getElem?_getD, List.getElem?_map, List.getElem?_eq_getElem (by rw [HN.out.1]; exact hlt), List.getD_eq_getElem?_getD, List.getElem?_eq_getElem (by rw [HN.out.1]; exact hlt)]; rfl
      have ee2 : (rt.map (·.1)).getD k (none, 0, 0) = (rt.getD k default).1 := by rw [List.getD_eq_getElem?_getD, List.getElem?_map, List.getElem?_eq_getElem (by rw [HN.out.2]; exact hlt), List.getD_eq_getElem?_getD, List.getElem?_eq_getElem (by rw [HN.out.2]; exact hlt)]; rfl
      rw [ee1] at z1
      rw [ee2] at u1
      have KK : Hid (∀ w1, Below w.heap.size w w1 → Calls Try.prog 24 #[hdV (rs.getD k default).1, hdV (rt.getD k default).1] w1 fun e w' => e = .returned (.bool true) ∧ Below w1.heap.size w1 w') := fun w1 hb => KR.out k w1 hlt hb
      obtain ⟨⟨⟨s1, s2, s3⟩, sl⟩, hz⟩ : ∃ z, rs.getD k default = z := ⟨_, rfl⟩
      obtain ⟨⟨⟨t1, t2, t3⟩, tl⟩, hz'⟩ : ∃ z, rt.getD k default = z := ⟨_, rfl⟩
      rw [hz] at z1 KK
      rw [hz'] at u1 KK
      unfold hdV at z1 u1 KK
      dsimp only at z1 u1 KK
      have i1 : (0 : Int) ≤ (k : Int) := by omega
      have i2 : (k : Int) < (n : Int) := by omega
      clear hz hz' ee1 ee2 x1 y1
      go_wp2
      go_region_held3 (fun w' => w'.cell? ⟨w.heap.size, 2, none⟩ = some (.slice (some ⟨b1, o1, none⟩) n rc) ∧ w'.cell? ⟨w.heap.size + 1, 2, none⟩ = some (.slice (some ⟨b2, o2, none⟩) n rd) ∧ w'.cell? ⟨b1, o1 + k, none⟩ = some (.slice s1 s2 s3) ∧ w'.cell? ⟨b2, o2 + k, none⟩ = some (.slice t1 t2 t3)) (first | go_keep | exact ⟨cell_later hbq d1, cell_later hbq d2, cell_later hbq z1, cell_later hbq u1⟩)
        (first | (go_at_call 24; refine (KK.out _ hbr.drew).mono ?_; rintro e wq ⟨rfl, hbq0⟩; have hbq : Below wr.heap.size wr wq := (Below.refl _ _).drew.trans hbq0))
      all_goals
        go_wp2
        go_roundw
        case rel => exact ⟨k + 1, by omega, by go_num, hnx.trans (hbq.mono hnx.size)⟩
        case measure => simp [intOf]; omega
    · go_wp2
      go_ret
      exact ⟨rfl, hbr⟩
end Go.Proofs.Ytnfknkihiapgiaa.bf
