/- changeBegun answers true. -/
import Derived.Test.YtkjiaeolodemlafChgNet2
namespace Go.Proofs.Ytkjiaeolodemlaf.ch
open Go.ChangeShapes Go.WideShapes Go.ChangeAt Go.RowKit Go.Maps Go.WideMaps Go.Sort
open vl
set_option linter.unusedVariables false
set_option linter.unusedSimpArgs false

def ra1 : List Cel := [⟨2, 1, ⟨#[]⟩⟩]
def rb2 : List Cel := [⟨2, 2, ⟨#[]⟩⟩]
def L4 : List Chg := [⟨1, ra1⟩, ⟨1, rb2⟩, ⟨3, ra1⟩, ⟨4, rb2⟩]
def L2 : List Chg := [⟨2, ra1⟩, ⟨1, rb2⟩]
theorem ra1_ok : rowOk ra1 := by
  refine ⟨by decide, ?_⟩
  intro c hc
  simp only [ra1, List.mem_cons, List.not_mem_nil, or_false] at hc
  subst hc
  exact ⟨int_ok _, wf0 _ _ (by decide) (by decide)⟩
theorem rb2_ok : rowOk rb2 := by
  refine ⟨by decide, ?_⟩
  intro c hc
  simp only [rb2, List.mem_cons, List.not_mem_nil, or_false] at hc
  subst hc
  exact ⟨int_ok _, wf0 _ _ (by decide) (by decide)⟩
theorem row_one (n : Int) (w : World) (b : Nat) (h0 : w.cell? ⟨b, 0, none⟩ = some (.int .i64 2)) (h1 : w.cell? ⟨b, 1, none⟩ = some (.int .i64 n)) (h2 : w.cell? ⟨b, 2, none⟩ = some (.string ⟨#[]⟩)) : vl.rowAt w (some ⟨b, 0, none⟩) [⟨2, n, ⟨#[]⟩⟩] := by
  intro i hi
  refine ⟨b, 0, rfl, ?_⟩
  match i, hi with
  | 0, _ => exact ⟨h0, h1, h2⟩
theorem chgs4 (w : World) (b : Nat) (x y : Option Addr) (h0 : w.cell? ⟨b, 0, none⟩ = some (.int .i64 1)) (h1 : w.cell? ⟨b, 1, none⟩ = some (.slice x 1 1)) (h2 : w.cell? ⟨b, 2, none⟩ = some (.int .i64 1)) (h3 : w.cell? ⟨b, 3, none⟩ = some (.slice y 1 1))
    (h4 : w.cell? ⟨b, 4, none⟩ = some (.int .i64 3)) (h5 : w.cell? ⟨b, 5, none⟩ = some (.slice x 1 1)) (h6 : w.cell? ⟨b, 6, none⟩ = some (.int .i64 4)) (h7 : w.cell? ⟨b, 7, none⟩ = some (.slice y 1 1)) (hx : vl.rowAt w x ra1) (hy : vl.rowAt w y rb2) : chgsAt w (some ⟨b, 0, none⟩) L4 := by
  intro i hi
  match i, hi with
  | 0, _ => exact ⟨b, 0, x, 1, rfl, h0, h1, hx⟩
  | 1, _ => exact ⟨b, 0, y, 1, rfl, h2, h3, hy⟩
  | 2, _ => exact ⟨b, 0, x, 1, rfl, h4, h5, hx⟩
  | 3, _ => exact ⟨b, 0, y, 1, rfl, h6, h7, hy⟩
theorem chgs2 (w : World) (b : Nat) (x y : Option Addr) (h0 : w.cell? ⟨b, 0, none⟩ = some (.int .i64 2)) (h1 : w.cell? ⟨b, 1, none⟩ = some (.slice x 1 1)) (h2 : w.cell? ⟨b, 2, none⟩ = some (.int .i64 1)) (h3 : w.cell? ⟨b, 3, none⟩ = some (.slice y 1 1))
    (hx : vl.rowAt w x ra1) (hy : vl.rowAt w y rb2) : chgsAt w (some ⟨b, 0, none⟩) L2 := by
  intro i hi
  match i, hi with
  | 0, _ => exact ⟨b, 0, x, 1, rfl, h0, h1, hx⟩
  | 1, _ => exact ⟨b, 0, y, 1, rfl, h2, h3, hy⟩
theorem view1 (w : World) (b : Nat) (y : Option Addr) (h0 : w.cell? ⟨b, 0, none⟩ = some (.slice y 1 1)) (h1 : w.cell? ⟨b, 1, none⟩ = some (.int .i64 2)) (hy : vl.rowAt w y rb2) : viewAt w (some ⟨b, 0, none⟩) [⟨rb2, 2⟩] := by
  intro i hi
  match i, hi with
  | 0, _ => exact ⟨b, 0, y, 1, rfl, h0, hy, h1⟩
theorem wf_L {l : List Chg} (h : ∀ c ∈ l, (c.r = ra1 ∨ c.r = rb2) ∧ 0 ≤ c.k ∧ c.k ≤ 4) : wfChgs l := by
  intro c hc
  obtain ⟨h1, h2, h3⟩ := h c hc
  have hr : rowOk c.r := by
    rcases h1 with e | e
    · rw [e]; exact ra1_ok
    · rw [e]; exact rb2_ok
  have := hr.1
  exact ⟨rowOk_wf hr, by omega, by omega, by omega⟩
theorem wf_L4 : wfChgs L4 := wf_L (by
  intro c hc
  simp only [L4, List.mem_cons, List.not_mem_nil, or_false] at hc
  rcases hc with rfl | rfl | rfl | rfl
  · exact ⟨.inl rfl, by decide, by decide⟩
  · exact ⟨.inr rfl, by decide, by decide⟩
  · exact ⟨.inl rfl, by decide, by decide⟩
  · exact ⟨.inr rfl, by decide, by decide⟩)
theorem wf_L2 : wfChgs L2 := wf_L (by
  intro c hc
  simp only [L2, List.mem_cons, List.not_mem_nil, or_false] at hc
  rcases hc with rfl | rfl
  · exact ⟨.inl rfl, by decide, by decide⟩
  · exact ⟨.inr rfl, by decide, by decide⟩)
theorem form_L4 : formErr L4 = 0 := by kernel_rfl
theorem form_L2 : formErr L2 = 0 := by kernel_rfl
theorem err0 : errK (kvOf []) L4 0 = 0 := by kernel_rfl
theorem err1 : errK (kvOf []) L4 1 = 0 := by kernel_rfl
theorem err2 : errK (kvOf []) L4 2 = 0 := by kernel_rfl
theorem err3 : errK (kvOf []) L4 3 = 0 := by kernel_rfl
theorem err_L4 : ∀ i, i < 4 → errK (kvOf []) L4 i = 0 := by
  intro i hi
  match i, hi with
  | 0, _ => exact err0
  | 1, _ => exact err1
  | 2, _ => exact err2
  | 3, _ => exact err3
theorem at_L4 : atK (kvOf []) L4 4 = kvOf [⟨rb2, 2⟩] := by kernel_rfl
theorem net_L2 : netK L2 = kvOf [⟨ra1, -1⟩, ⟨rb2, 1⟩] := by kernel_rfl
theorem made_L2 : dels [⟨ra1, -1⟩, ⟨rb2, 1⟩] ++ inss [⟨ra1, -1⟩, ⟨rb2, 1⟩] = L2 := by kernel_rfl
theorem wf_one : wfView [⟨rb2, 2⟩] := by
  intro c hc
  simp only [List.mem_cons, List.not_mem_nil, or_false] at hc
  subst hc
  exact ⟨rowOk_wf rb2_ok, by decide, by decide, by decide⟩

theorem begun_fold (a : Option Addr) (cap : Nat) (w : World) (h : chgsAt w a L4) : Calls Try.prog 17 #[.slice none 0 0, .slice a 4 cap] w fun e w' => (∃ ad c, e = .returned (.tuple #[.slice ad 1 c, .int .i64 0, .int .i64 0]) ∧ viewAt w' ad [⟨rb2, 2⟩]) ∧ Below w.heap.size w w' := by
  refine (fold_any none a 0 cap [] L4 w (fun i hi => absurd hi (Nat.not_lt_zero i)) (fun c hc => absurd hc List.not_mem_nil) (by decide) h wf_L4 (by decide)).mono ?_
  rintro e w' ⟨hres, hb⟩
  refine ⟨?_, hb⟩
  rcases hres with ⟨h1, _⟩ | ⟨_, h1, _⟩ | ⟨_, _, k, hk, _, h1, _⟩ | ⟨_, _, _, out, ad, c, h1, h2, h3, rfl, h4⟩
  · exact absurd rfl h1
  · exact absurd form_L4 h1
  · exact absurd (err_L4 k hk) h1
  · have ho : out = [⟨rb2, 2⟩] := kvOf_inj (view_rows h3 h2) (by intro c hc; simp only [List.mem_cons, List.not_mem_nil, or_false] at hc; subst hc; exact rb2_ok) (h1.trans at_L4)
    subst ho
    exact ⟨ad, c, rfl, h4⟩
theorem begun_net (a : Option Addr) (cap : Nat) (w : World) (h : chgsAt w a L2) : Calls Try.prog 12 #[.slice a 2 cap] w fun e w' => (∃ ad c, e = .returned (.tuple #[.slice ad 2 c, .int .i64 0]) ∧ chgsAt w' ad L2) ∧ Below w.heap.size w w' := by
  refine (net_any a cap L2 w h wf_L2 (by decide)).mono ?_
  rintro e w' ⟨hres, hb⟩
  refine ⟨?_, hb⟩
  rcases hres with ⟨h1, _⟩ | ⟨_, out, ad, c, h1, h2, rfl, h4⟩
  · exact absurd form_L2 h1
  · have ho : out = [⟨ra1, -1⟩, ⟨rb2, 1⟩] := kvOf_inj h2 (by
      intro c hc
      simp only [List.mem_cons, List.not_mem_nil, or_false] at hc
      rcases hc with rfl | rfl
      · exact ra1_ok
      · exact rb2_ok) (h1.trans net_L2)
    subst ho
    rw [made_L2] at h4
    exact ⟨ad, c, rfl, h4⟩
theorem begun_views (a1 a2 : Option Addr) (c1 c2 : Nat) (w : World) (h1 : viewAt w a1 [⟨rb2, 2⟩]) (h2 : viewAt w a2 [⟨rb2, 2⟩]) : Calls Try.prog 18 #[.slice a1 1 c1, .slice a2 1 c2] w fun e w' => e = .returned (.bool true) ∧ Below w.heap.size w w' :=
  (sameViews_any a1 a2 c1 c2 [⟨rb2, 2⟩] [⟨rb2, 2⟩] w h1 h2 wf_one wf_one (by decide) (by decide)).mono fun e w' ⟨he, hb⟩ => ⟨he.trans (ret_bool (decide_eq_true rfl)), hb⟩
theorem cnum_any (n : Int) (w : World) : Calls Try.prog 27 #[.int .i64 n] w fun e w' => e = .returned (.agg #[.int .i64 2, .int .i64 n, .string ⟨#[]⟩]) ∧ Below w.heap.size w w' := by
  go_enter Try.func27, Try.ntmps27
  go_wp2
  exact bodyPost_ret (v := .agg #[.int .i64 2, .int .i64 n, .string ⟨#[]⟩]) (by simp [results, Try.results27, go_sem]) rfl ⟨rfl, by repeat (first | exact Below.refl _ _ | apply Below.drew | (refine Below.setCell ?_ (by simp) _) | (refine Below.alloc ?_ (by simp <;> omega) _))⟩

set_option maxRecDepth 10000 in
set_option maxHeartbeats 4000000 in
theorem cbegun_any (w : World) : Calls Try.prog 10 #[] w fun e w' => e = .returned (.bool true) ∧ Below w.heap.size w w' := by
  go_enter Try.func10, Try.ntmps10
  go_wp2_with fail
  refine (cnum_any _ _).mono ?_
  rintro e wa ⟨rfl, hba⟩
  have HRA : Hid (vl.rowAt (wa.alloc (.cells #[.int .i64 2, .int .i64 1, .string ⟨#[]⟩] 55)) (some ⟨wa.heap.size, 0, none⟩) ra1) := by
    apply row_one <;> go_simp
  go_wp2_with fail
  refine (cnum_any _ _).mono ?_
  rintro e wb ⟨rfl, hbb⟩
  have hab : Below w.heap.size w wb := (hba.alloc hba.size _).trans (hbb.mono (by have := hba.size; simp; omega))
  have HRA2 : Hid (vl.rowAt (wb.alloc (.cells #[.int .i64 2, .int .i64 2, .string ⟨#[]⟩] 55)) (some ⟨wa.heap.size, 0, none⟩) ra1) := rowAt_below (rowAt_below HRA.out hbb) ((Below.refl _ _).alloc (Nat.le_refl _) _)
  have HRB2 : Hid (vl.rowAt (wb.alloc (.cells #[.int .i64 2, .int .i64 2, .string ⟨#[]⟩] 55)) (some ⟨wb.heap.size, 0, none⟩) rb2) := by
    apply row_one <;> go_simp
  clear HRA
  have hb2 : Below w.heap.size w (wb.alloc (.cells #[.int .i64 2, .int .i64 2, .string ⟨#[]⟩] 55)) := hab.alloc hab.size _
  obtain ⟨wc, hwc⟩ : ∃ x, wb.alloc (.cells #[.int .i64 2, .int .i64 2, .string ⟨#[]⟩] 55) = x := ⟨_, rfl⟩
  go_wp2_with fail
  rw [hwc] at HRA2 HRB2 hb2
  have hbz : wb.heap.size + 1 = wc.heap.size := by rw [← hwc]; simp
  clear hwc hbb hab
  have HC4 : Hid (chgsAt (wc.alloc (.cells #[.int .i64 1, .slice (some ⟨wa.heap.size, 0, none⟩) 1 1, .int .i64 1, .slice (some ⟨wb.heap.size, 0, none⟩) 1 1, .int .i64 3, .slice (some ⟨wa.heap.size, 0, none⟩) 1 1, .int .i64 4, .slice (some ⟨wb.heap.size, 0, none⟩) 1 1] 58)) (some ⟨wc.heap.size, 0, none⟩) L4) := by
    refine chgs4 _ _ (some ⟨wa.heap.size, 0, none⟩) (some ⟨wb.heap.size, 0, none⟩) ?_ ?_ ?_ ?_ ?_ ?_ ?_ ?_ (rowAt_below HRA2.out ((Below.refl _ _).alloc (Nat.le_refl _) _)) (rowAt_below HRB2.out ((Below.refl _ _).alloc (Nat.le_refl _) _)) <;> go_simp
  refine (begun_fold _ 4 _ HC4.out).mono ?_
  rintro e wd ⟨⟨ad, c, rfl, hvd⟩, hbd⟩
  have HVD : Hid (viewAt wd ad [⟨rb2, 2⟩]) := hvd
  have hcd : Below wc.heap.size wc wd := ((Below.refl _ _).alloc (Nat.le_refl _) _).trans (hbd.mono (by simp))
  have HRA3 : Hid (vl.rowAt wd (some ⟨wa.heap.size, 0, none⟩) ra1) := rowAt_below HRA2.out hcd
  have HRB3 : Hid (vl.rowAt wd (some ⟨wb.heap.size, 0, none⟩) rb2) := rowAt_below HRB2.out hcd
  have hb3 : Below w.heap.size w wd := hb2.trans (hcd.mono hb2.size)
  clear HRA2 HRB2 HC4 hvd hbd hcd hb2 hbz
  have HC2 : Hid (chgsAt (wd.alloc (.cells #[.int .i64 2, .slice (some ⟨wa.heap.size, 0, none⟩) 1 1, .int .i64 1, .slice (some ⟨wb.heap.size, 0, none⟩) 1 1] 58)) (some ⟨wd.heap.size, 0, none⟩) L2) := by
    refine chgs2 _ _ (some ⟨wa.heap.size, 0, none⟩) (some ⟨wb.heap.size, 0, none⟩) ?_ ?_ ?_ ?_ (rowAt_below HRA3.out ((Below.refl _ _).alloc (Nat.le_refl _) _)) (rowAt_below HRB3.out ((Below.refl _ _).alloc (Nat.le_refl _) _)) <;> go_simp
  go_wp2_with fail
  refine (begun_net _ 2 _ HC2.out).mono ?_
  rintro e we ⟨⟨ae, ce, rfl, hve⟩, hbe⟩
  obtain ⟨b, o, ra, rc, e, x1, _, _⟩ := hve 0 (by decide)
  subst e
  have q0 : we.cell? ⟨b, o, none⟩ = some (.int .i64 2) := x1
  have hde : Below wd.heap.size wd we := ((Below.refl _ _).alloc (Nat.le_refl _) _).trans (hbe.mono (by simp))
  have HRB4 : Hid (vl.rowAt we (some ⟨wb.heap.size, 0, none⟩) rb2) := rowAt_below HRB3.out hde
  have HVE : Hid (viewAt we ad [⟨rb2, 2⟩]) := viewAt_below HVD.out hde
  have hb4 : Below w.heap.size w we := hb3.trans (hde.mono hb3.size)
  clear hve hbe x1 HRA3 HRB3 HC2 HVD hde hb3
  have HV1 : Hid (viewAt (we.alloc (.cells #[.slice (some ⟨wb.heap.size, 0, none⟩) 1 1, .int .i64 2] 51)) (some ⟨we.heap.size, 0, none⟩) [⟨rb2, 2⟩]) := by
    refine view1 _ _ (some ⟨wb.heap.size, 0, none⟩) ?_ ?_ (rowAt_below HRB4.out ((Below.refl _ _).alloc (Nat.le_refl _) _)) <;> go_simp
  go_wp2_with (first
    | (go_at_call 18; refine (begun_views _ _ _ _ _ (viewAt_below HVE.out ((Below.refl _ _).alloc (Nat.le_refl _) _)) HV1.out).mono ?_; rintro e ws ⟨rfl, hbs⟩))
  go_ret
  exact ⟨rfl, (hb4.alloc hb4.size _).trans (hbs.mono (by have := hb4.size; simp; omega))⟩
end Go.Proofs.Ytkjiaeolodemlaf.ch
