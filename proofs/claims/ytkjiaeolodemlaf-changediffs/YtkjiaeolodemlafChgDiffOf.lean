/- The document's DiffOf: what is told of two views gone through at once. -/
import Derived.Test.YtkjiaeolodemlafChgPartA
import Derived.Test.YtkjiaeolodemlafChgRCheck
namespace Go.Proofs.Ytkjiaeolodemlaf.ch
open Go.ChangeShapes Go.WideShapes Go.ChangeAt Go.RowKit Go.Maps Go.WideMaps
open vl
set_option linter.unusedVariables false
set_option linter.unusedSimpArgs false

def diffOfRes (a b : List Cnt) (e : Ending) (w' : World) : Prop :=
  (viewErr a ≠ 0 ∧ e = .returned (.tuple #[.slice none 0 0, .int .i64 (viewErr a)])) ∨
  (viewErr a = 0 ∧ viewErr b ≠ 0 ∧ e = .returned (.tuple #[.slice none 0 0, .int .i64 (viewErr b)])) ∨
  (viewErr a = 0 ∧ viewErr b = 0 ∧ ∃ M : List Cnt, (∀ c ∈ M, rowOk c.r) ∧ rising (kvOf M) ∧ (∀ k, getK (kvOf M) k = getK (kvOf b) k - getK (kvOf a) k) ∧
    ((4096 < (madeL M).length ∧ e = .returned (.tuple #[.slice none 0 0, .int .i64 2])) ∨
     ((madeL M).length ≤ 4096 ∧ ∃ ad cap, e = .returned (.tuple #[.slice ad (madeL M).length cap, .int .i64 0]) ∧ chgsAt w' ad (madeL M))))
theorem view_ok0 {v : List Cnt} (h : viewErr v = 0) : viewOk v := by
  unfold viewErr at h
  split at h
  · cases h
  · split at h
    · assumption
    · cases h


set_option maxRecDepth 100000 in
set_option maxHeartbeats 8000000 in
theorem diffOf_any (a b : Option Addr) (ca cb : Nat) (va vb : List Cnt) (w : World) (hva : viewAt w a va) (hvb : viewAt w b vb) (wa : wfView va) (wb : wfView vb) (la : va.length ≤ 9223372036854775807) (lb : vb.length ≤ 9223372036854775807) :
    Calls Try.prog 9 #[.slice a va.length ca, .slice b vb.length cb] w fun e w' => diffOfRes va vb e w' ∧ Below w.heap.size w w' := by
  have KA := checkView_any a ca va w hva wa la
  have KB : Hid (∀ w1, Below w.heap.size w w1 → Calls Try.prog 24 #[.slice b vb.length cb] w1 fun e w' => e = .returned (.int .i64 (viewErr vb)) ∧ Below w1.heap.size w1 w') := fun w1 hb => checkView_any b cb vb w1 (viewAt_below hvb hb) wb lb
  have HVA : Hid (viewAt w a va) := hva
  have HVB : Hid (viewAt w b vb) := hvb
  clear hva hvb
  obtain ⟨m, hm⟩ : ∃ m, va.length = m := ⟨_, rfl⟩
  have HM : Hid (va.length = m) := hm
  obtain ⟨n, hn⟩ : ∃ n, vb.length = n := ⟨_, rfl⟩
  have HN : Hid (vb.length = n) := hn
  rw [hm] at KA la
  rw [hn] at KB lb
  rw [hm, hn]
  clear hm hn
  obtain ⟨ea, hea⟩ : ∃ z, viewErr va = z := ⟨_, rfl⟩
  have HEA : Hid (viewErr va = ea) := hea
  obtain ⟨eb, heb⟩ : ∃ z, viewErr vb = z := ⟨_, rfl⟩
  have HEB : Hid (viewErr vb = eb) := heb
  rw [hea] at KA
  rw [heb] at KB
  clear hea heb
  go_enter Try.func9, Try.ntmps9
  go_wp2_with fail
  refine KA.mono ?_
  rintro e w1 ⟨rfl, hb1⟩
  by_cases e1 : ea = 0
  · subst e1
    have HOA : Hid (viewOk va) := view_ok0 HEA.out
    go_wp2_with fail
    refine (KB.out w1 hb1).mono ?_
    rintro e w2 ⟨rfl, hb2⟩
    have hw2 : Below w.heap.size w w2 := hb1.trans (hb2.mono hb1.size)
    by_cases e2 : eb = 0
    · subst e2
      have HOB : Hid (viewOk vb) := view_ok0 HEB.out
      have hm4 : m ≤ 4096 := by rw [← HM.out]; exact HOA.out.1
      have hn4 : n ≤ 4096 := by rw [← HN.out]; exact HOB.out.1
      have HCTA : Hid (∀ i, i < va.length → 1 ≤ (va.getD i default).n ∧ (va.getD i default).n ≤ 1073741824) := fun i hi => cnt_view HOA.out i hi
      have HCTB : Hid (∀ i, i < vb.length → 1 ≤ (vb.getD i default).n ∧ (vb.getD i default).n ≤ 1073741824) := fun i hi => cnt_view HOB.out i hi
      clear KA
      go_wp2
      go_loopw [8, 9, 10, 11] (fun vR vN i k wr => ∃ (p q : Nat) (M : List Cnt), p ≤ m ∧ q ≤ n ∧ i = .int .i64 p ∧ k = .int .i64 q ∧ DS w wr vR vN M ∧ merged va vb p q M ∧ Below w.heap.size w wr) (fun _ _ i k _ => (m - (intOf i).toNat) + (n - (intOf k).toNat))
      case atStart => exact ⟨0, 0, [], Nat.zero_le _, Nat.zero_le _, rfl, rfl, DS_start hw2.size, merged_start va vb, hw2⟩
      case round =>
        obtain ⟨p, q, M, hp, hq, rfl, rfl, hds, hmg, hnx⟩ := hrel
        have HDS : Hid (DS w wr u8 u9 M) := hds
        have HMG : Hid (merged va vb p q M) := hmg
        have hsz := hnx.size
        clear hds hmg
        have p1 : (0 : Int) ≤ (p : Int) := by omega
        have p2 : (0 : Int) ≤ (q : Int) := by omega
        by_cases hpm : p < m
        · have hpl : p < va.length := by rw [HM.out]; exact hpm
          have p3 : (p : Int) < (m : Int) := by omega
          have p4 : ((p : Int) == (m : Int)) = false := by rw [beq_eq_false_iff_ne]; omega
          obtain ⟨ba, oa, ra, rc, e, x1, x2, x3⟩ := HVA.out p hpl
          subst e
          have HCA := HCTA.out p hpl
          have HRA : Hid (vl.rowAt w ra (va.getD p default).r) := x2
          have q1 := cell_later hnx x1
          have q3 := cell_later hnx x3
          by_cases hqn : q < n
          · have hql : q < vb.length := by rw [HN.out]; exact hqn
            have p5 : (q : Int) < (n : Int) := by omega
            have p6 : ((q : Int) == (n : Int)) = false := by rw [beq_eq_false_iff_ne]; omega
            obtain ⟨bb, ob, rb, sc, e, y1, y2, y3⟩ := HVB.out q hql
            subst e
            have HCB := HCTB.out q hql
            have HRB : Hid (vl.rowAt w rb (vb.getD q default).r) := y2
            have s1 := cell_later hnx y1
            have s3 := cell_later hnx y3
            have HROA : Hid (rowOk (va.getD p default).r) := ok_row wa hpl (HOA.out.2 p hpl)
            have HROB : Hid (rowOk (vb.getD q default).r) := ok_row wb hql (HOB.out.2 q hql)
            have KR : Hid (∀ w1, vl.rowAt w1 ra (va.getD p default).r → vl.rowAt w1 rb (vb.getD q default).r → Calls Try.prog 25 #[.slice ra (va.getD p default).r.length rc, .slice rb (vb.getD q default).r.length sc] w1 fun e w' => e = .returned (.int .i64 (cmpRows (va.getD p default).r (vb.getD q default).r)) ∧ Below w1.heap.size w1 w') := fun w1 h h' => rrows_any ra rb rc sc _ _ w1 h h' (wfv_at wa p hpl).2.1 (wfv_at wb q hql).2.1
            have HLT : Hid (cmpRows (va.getD p default).r (vb.getD q default).r < 0 → merged va vb (p + 1) q (M ++ [⟨(va.getD p default).r, -(va.getD p default).n⟩])) := fun h => merged_a wa HOA.out HMG.out hpl (fun _ => before_of_cmp HROA.out HROB.out h)
            have HEQ : Hid (cmpRows (va.getD p default).r (vb.getD q default).r = 0 → merged va vb (p + 1) (q + 1) (M ++ [⟨(va.getD p default).r, -(va.getD p default).n + (vb.getD q default).n⟩])) := fun h => merged_ab wa HOA.out wb HOB.out HMG.out hpl hql (cmp_eq HROA.out HROB.out h)
            have HGT : Hid (0 < cmpRows (va.getD p default).r (vb.getD q default).r → merged va vb p (q + 1) (M ++ [⟨(vb.getD q default).r, (vb.getD q default).n⟩])) := fun h => merged_b wb HOB.out HMG.out hql (fun _ => cmp_gt HROA.out HROB.out h)
            obtain ⟨⟨r, na⟩, hcv⟩ : ∃ c, va.getD p default = c := ⟨_, rfl⟩
            rw [hcv] at q1 q3 x1 x3 HCA HRA KR HLT HEQ HGT
            dsimp only at q1 q3 x1 x3 HCA HRA KR HLT HEQ HGT
            obtain ⟨rl, hrl⟩ : ∃ z, r.length = z := ⟨_, rfl⟩
            have HRL : Hid (r.length = rl) := hrl
            obtain ⟨⟨t, nb⟩, hcw⟩ : ∃ c, vb.getD q default = c := ⟨_, rfl⟩
            rw [hcw] at s1 s3 y1 y3 HCB HRB KR HLT HEQ HGT
            dsimp only at s1 s3 y1 y3 HCB HRB KR HLT HEQ HGT
            obtain ⟨tl, htl⟩ : ∃ z, t.length = z := ⟨_, rfl⟩
            have HTL : Hid (t.length = tl) := htl
            rw [hrl] at q1 x1
            rw [htl] at s1 y1
            rw [hrl, htl] at KR
            obtain ⟨vs, hvs, hrv⟩ := HDS.out.rows
            have HVS : Hid (wr.ownsRow w.heap.size 49 1 u8 M.length vs) := hvs
            have HRV : Hid (rowV w vs M) := hrv
            have hMl := HMG.out.len
            obtain ⟨ml, hml⟩ : ∃ z, M.length = z := ⟨_, rfl⟩
            have HML : Hid (M.length = ml) := hml
            rw [hml] at HVS hMl
            clear hvs hrv hml
            have hwd1 : IntKind.i64.wrap (-na) = -na := by rw [wrap_is]; omega
            have hwd2 : IntKind.i64.wrap nb = nb := by rw [wrap_is]; omega
            have hwd3 : IntKind.i64.wrap (-na + nb) = -na + nb := by rw [wrap_is]; omega
            clear hrl hcv htl hcw HROA HROB
            obtain ⟨cc, hcc⟩ : ∃ z, cmpRows r t = z := ⟨_, rfl⟩
            rw [hcc] at KR HLT HEQ HGT
            clear hcc
            by_cases c1 : cc < 0
            · have c2 : cc ≤ 0 := by omega
              have c3 : ¬ 0 ≤ cc := by omega
              go_wp2
              go_region_held3 (fun w' => w'.cell? ⟨ba, oa + p * 2, none⟩ = some (.slice ra rl rc) ∧ w'.cell? ⟨bb, ob + q * 2, none⟩ = some (.slice rb tl sc)) (first | go_keep | exact ⟨cell_later hbq q1, cell_later hbq s1⟩)
                (first | (go_at_call 25; refine (KR.out wr.drew (rowAt_below HRA.out hnx.drew) (rowAt_below HRB.out hnx.drew)).mono ?_; rintro e wq ⟨rfl, hbq⟩))
              all_goals
                have hlq : Below w.heap.size w wq := hnx.drew.trans (hbq.mono hnx.size)
                have hrq : Below wr.heap.size wr wq := (Below.refl _ _).drew.trans hbq
                have HVSZ : Hid (wq.ownsRow w.heap.size 49 1 u8 ml vs) := own_below HVS.out hrq
                have HDSZ : Hid (DS w wq u8 u9 M) := DS_below HDS.out hrq
                have q1q := cell_later hlq x1
                have q3q := cell_later hlq x3
                have s1q := cell_later hlq y1
                have s3q := cell_later hlq y3
                go_wp2_with (first
                  | (at_builtin; refine wpList_appR rfl (.tmp 59) (.tmp 65) rfl w.heap.size u8 ml vs (.slice ra rl rc) wq HVSZ.out rfl (by omega) (hlq).size rfl rfl ?_; intro g cap2 w3 hown2 hgrow2 hat2 hlt2; have hb3 : Below w.heap.size w w3 := ((hlq).alloc (hlq).size _).grown hgrow2 (by have := (hlq).size; simp; omega) (fun b hb => (own_lt HVSZ.out hb).1); have k3z := cell_later hb3 x3; have HNM : Hid (w3.ownsRow w.heap.size 3 1 u9 ml (numV M)) := (by have h := DS_mid HDSZ.out hgrow2; rw [HML.out] at h; exact h))
                  | (at_builtin; refine wpList_appN rfl (.tmp 95) (.tmp 97) rfl w.heap.size u9 ml (numV M) (-na) w3 HNM.out (by omega) hb3.size rfl rfl ?_; intro g' cap3 w4 hown3 hgrow3 hat3 hlt3))
                have HST := DS_step (w0 := w) (r := r) (d := -na) (ra := ra) (rc := rc) (vs := vs) (g := g) (cap := cap2) (g' := g') (cap' := cap3) HDSZ.out (by rw [HML.out]; exact HVSZ.out) HRV.out HRA.out (by rw [HML.out, HRL.out]; exact hown2) (by rw [HRL.out]; exact hgrow2) hat2 (by rw [HML.out]; exact hown3) hgrow3 hat3
                rw [HML.out] at HST
                go_roundw
                case rel => exact ⟨p + 1, q, _, by omega, by omega, by go_num, rfl, HST.1, HLT.out c1, hlq.trans HST.2⟩
                case measure => simp [intOf]; omega
            · by_cases c2 : cc = 0
              · subst c2
                go_wp2
                go_region_held3 (fun w' => w'.cell? ⟨ba, oa + p * 2, none⟩ = some (.slice ra rl rc) ∧ w'.cell? ⟨bb, ob + q * 2, none⟩ = some (.slice rb tl sc)) (first | go_keep | exact ⟨cell_later hbq q1, cell_later hbq s1⟩)
                  (first | (go_at_call 25; refine (KR.out wr.drew (rowAt_below HRA.out hnx.drew) (rowAt_below HRB.out hnx.drew)).mono ?_; rintro e wq ⟨rfl, hbq⟩))
                all_goals
                  have hlq : Below w.heap.size w wq := hnx.drew.trans (hbq.mono hnx.size)
                  have hrq : Below wr.heap.size wr wq := (Below.refl _ _).drew.trans hbq
                  have HVSZ : Hid (wq.ownsRow w.heap.size 49 1 u8 ml vs) := own_below HVS.out hrq
                  have HDSZ : Hid (DS w wq u8 u9 M) := DS_below HDS.out hrq
                  have q1q := cell_later hlq x1
                  have q3q := cell_later hlq x3
                  have s1q := cell_later hlq y1
                  have s3q := cell_later hlq y3
                  go_wp2_with (first
                    | (at_builtin; refine wpList_appR rfl (.tmp 59) (.tmp 65) rfl w.heap.size u8 ml vs (.slice ra rl rc) wq HVSZ.out rfl (by omega) (hlq).size rfl rfl ?_; intro g cap2 w3 hown2 hgrow2 hat2 hlt2; have hb3 : Below w.heap.size w w3 := ((hlq).alloc (hlq).size _).grown hgrow2 (by have := (hlq).size; simp; omega) (fun b hb => (own_lt HVSZ.out hb).1); have k3z := cell_later hb3 x3; have k4z := cell_later hb3 y3; have HNM : Hid (w3.ownsRow w.heap.size 3 1 u9 ml (numV M)) := (by have h := DS_mid HDSZ.out hgrow2; rw [HML.out] at h; exact h))
                    | (at_builtin; refine wpList_appN rfl (.tmp 95) (.tmp 97) rfl w.heap.size u9 ml (numV M) (-na + nb) w3 HNM.out (by omega) hb3.size rfl rfl ?_; intro g' cap3 w4 hown3 hgrow3 hat3 hlt3))
                  have HST := DS_step (w0 := w) (r := r) (d := -na + nb) (ra := ra) (rc := rc) (vs := vs) (g := g) (cap := cap2) (g' := g') (cap' := cap3) HDSZ.out (by rw [HML.out]; exact HVSZ.out) HRV.out HRA.out (by rw [HML.out, HRL.out]; exact hown2) (by rw [HRL.out]; exact hgrow2) hat2 (by rw [HML.out]; exact hown3) hgrow3 hat3
                  rw [HML.out] at HST
                  go_roundw
                  case rel => exact ⟨p + 1, q + 1, _, by omega, by omega, by go_num, by go_num, HST.1, HEQ.out (by simp), hlq.trans HST.2⟩
                  case measure => simp [intOf]; omega
              · have c3 : ¬ cc ≤ 0 := by omega
                have c4 : 0 ≤ cc := by omega
                go_wp2
                go_region_held3 (fun w' => w'.cell? ⟨ba, oa + p * 2, none⟩ = some (.slice ra rl rc) ∧ w'.cell? ⟨bb, ob + q * 2, none⟩ = some (.slice rb tl sc)) (first | go_keep | exact ⟨cell_later hbq q1, cell_later hbq s1⟩)
                  (first | (go_at_call 25; refine (KR.out wr.drew (rowAt_below HRA.out hnx.drew) (rowAt_below HRB.out hnx.drew)).mono ?_; rintro e wq ⟨rfl, hbq⟩))
                all_goals
                  have hlq : Below w.heap.size w wq := hnx.drew.trans (hbq.mono hnx.size)
                  have hrq : Below wr.heap.size wr wq := (Below.refl _ _).drew.trans hbq
                  have HVSZ : Hid (wq.ownsRow w.heap.size 49 1 u8 ml vs) := own_below HVS.out hrq
                  have HDSZ : Hid (DS w wq u8 u9 M) := DS_below HDS.out hrq
                  have q1q := cell_later hlq x1
                  have q3q := cell_later hlq x3
                  have s1q := cell_later hlq y1
                  have s3q := cell_later hlq y3
                  go_wp2_with (first
                    | (at_builtin; refine wpList_appR rfl (.tmp 76) (.tmp 82) rfl w.heap.size u8 ml vs (.slice rb tl sc) wq HVSZ.out rfl (by omega) (hlq).size rfl rfl ?_; intro g cap2 w3 hown2 hgrow2 hat2 hlt2; have hb3 : Below w.heap.size w w3 := ((hlq).alloc (hlq).size _).grown hgrow2 (by have := (hlq).size; simp; omega) (fun b hb => (own_lt HVSZ.out hb).1); have k4z := cell_later hb3 y3; have HNM : Hid (w3.ownsRow w.heap.size 3 1 u9 ml (numV M)) := (by have h := DS_mid HDSZ.out hgrow2; rw [HML.out] at h; exact h))
                    | (at_builtin; refine wpList_appN rfl (.tmp 95) (.tmp 97) rfl w.heap.size u9 ml (numV M) (nb) w3 HNM.out (by omega) hb3.size rfl rfl ?_; intro g' cap3 w4 hown3 hgrow3 hat3 hlt3))
                  have HST := DS_step (w0 := w) (r := t) (d := nb) (ra := rb) (rc := sc) (vs := vs) (g := g) (cap := cap2) (g' := g') (cap' := cap3) HDSZ.out (by rw [HML.out]; exact HVSZ.out) HRV.out HRB.out (by rw [HML.out, HTL.out]; exact hown2) (by rw [HTL.out]; exact hgrow2) hat2 (by rw [HML.out]; exact hown3) hgrow3 hat3
                  rw [HML.out] at HST
                  go_roundw
                  case rel => exact ⟨p, q + 1, _, by omega, by omega, rfl, by go_num, HST.1, HGT.out (by omega), hlq.trans HST.2⟩
                  case measure => simp [intOf]; omega
          · have hqe : q = n := by omega
            subst hqe
            have HNEXT : Hid (merged va vb (p + 1) q (M ++ [⟨(va.getD p default).r, -(va.getD p default).n⟩])) := merged_a wa HOA.out HMG.out hpl (fun h => absurd h (by rw [HN.out]; omega))
            obtain ⟨⟨r, na⟩, hcv⟩ : ∃ c, va.getD p default = c := ⟨_, rfl⟩
            rw [hcv] at q1 q3 x3 HCA HRA HNEXT
            dsimp only at q1 q3 x3 HCA HRA HNEXT
            obtain ⟨rl, hrl⟩ : ∃ z, r.length = z := ⟨_, rfl⟩
            have HRL : Hid (r.length = rl) := hrl
            rw [hrl] at q1
            obtain ⟨vs, hvs, hrv⟩ := HDS.out.rows
            have HVS : Hid (wr.ownsRow w.heap.size 49 1 u8 M.length vs) := hvs
            have HRV : Hid (rowV w vs M) := hrv
            have hMl := HMG.out.len
            obtain ⟨ml, hml⟩ : ∃ z, M.length = z := ⟨_, rfl⟩
            have HML : Hid (M.length = ml) := hml
            rw [hml] at HVS hMl
            clear hvs hrv hml
            have HVSZ := HVS
            have HDSZ := HDS
            have hwd : IntKind.i64.wrap (-na) = -na := by rw [wrap_is]; omega
            clear hrl hcv
            go_wp2_with (first
              | (at_builtin; refine wpList_appR rfl (.tmp 59) (.tmp 65) rfl w.heap.size u8 ml vs (.slice ra rl rc) wr HVSZ.out rfl (by omega) (hnx).size rfl rfl ?_; intro g cap2 w3 hown2 hgrow2 hat2 hlt2; have hb3 : Below w.heap.size w w3 := ((hnx).alloc (hnx).size _).grown hgrow2 (by have := (hnx).size; simp; omega) (fun b hb => (own_lt HVSZ.out hb).1); have k3z := cell_later hb3 x3; have HNM : Hid (w3.ownsRow w.heap.size 3 1 u9 ml (numV M)) := (by have h := DS_mid HDSZ.out hgrow2; rw [HML.out] at h; exact h))
              | (at_builtin; refine wpList_appN rfl (.tmp 95) (.tmp 97) rfl w.heap.size u9 ml (numV M) (-na) w3 HNM.out (by omega) hb3.size rfl rfl ?_; intro g' cap3 w4 hown3 hgrow3 hat3 hlt3))
            have HST := DS_step (w0 := w) (r := r) (d := -na) (ra := ra) (rc := rc) (vs := vs) (g := g) (cap := cap2) (g' := g') (cap' := cap3) HDSZ.out (by rw [HML.out]; exact HVSZ.out) HRV.out HRA.out (by rw [HML.out, HRL.out]; exact hown2) (by rw [HRL.out]; exact hgrow2) hat2 (by rw [HML.out]; exact hown3) hgrow3 hat3
            rw [HML.out] at HST
            go_roundw
            case rel => exact ⟨p + 1, q, _, by omega, by omega, by go_num, rfl, HST.1, HNEXT.out, hnx.trans HST.2⟩
            case measure => simp [intOf]; omega
        · have hpe : p = m := by omega
          subst hpe
          by_cases hqn : q < n
          · have hql : q < vb.length := by rw [HN.out]; exact hqn
            have p5 : (q : Int) < (n : Int) := by omega
            have p6 : ((q : Int) == (n : Int)) = false := by rw [beq_eq_false_iff_ne]; omega
            obtain ⟨bb, ob, rb, sc, e, y1, y2, y3⟩ := HVB.out q hql
            subst e
            have HCB := HCTB.out q hql
            have HRB : Hid (vl.rowAt w rb (vb.getD q default).r) := y2
            have s1 := cell_later hnx y1
            have s3 := cell_later hnx y3
            have HNEXT : Hid (merged va vb p (q + 1) (M ++ [⟨(vb.getD q default).r, (vb.getD q default).n⟩])) := merged_b wb HOB.out HMG.out hql (fun h => absurd h (by rw [HM.out]; omega))
            obtain ⟨⟨t, nb⟩, hcw⟩ : ∃ c, vb.getD q default = c := ⟨_, rfl⟩
            rw [hcw] at s1 s3 y3 HCB HRB HNEXT
            dsimp only at s1 s3 y3 HCB HRB HNEXT
            obtain ⟨tl, htl⟩ : ∃ z, t.length = z := ⟨_, rfl⟩
            have HTL : Hid (t.length = tl) := htl
            rw [htl] at s1
            obtain ⟨vs, hvs, hrv⟩ := HDS.out.rows
            have HVS : Hid (wr.ownsRow w.heap.size 49 1 u8 M.length vs) := hvs
            have HRV : Hid (rowV w vs M) := hrv
            have hMl := HMG.out.len
            obtain ⟨ml, hml⟩ : ∃ z, M.length = z := ⟨_, rfl⟩
            have HML : Hid (M.length = ml) := hml
            rw [hml] at HVS hMl
            clear hvs hrv hml
            have HVSZ := HVS
            have HDSZ := HDS
            have hwd : IntKind.i64.wrap nb = nb := by rw [wrap_is]; omega
            clear htl hcw
            go_wp2_with (first
              | (at_builtin; refine wpList_appR rfl (.tmp 76) (.tmp 82) rfl w.heap.size u8 ml vs (.slice rb tl sc) wr HVSZ.out rfl (by omega) (hnx).size rfl rfl ?_; intro g cap2 w3 hown2 hgrow2 hat2 hlt2; have hb3 : Below w.heap.size w w3 := ((hnx).alloc (hnx).size _).grown hgrow2 (by have := (hnx).size; simp; omega) (fun b hb => (own_lt HVSZ.out hb).1); have k3z := cell_later hb3 y3; have HNM : Hid (w3.ownsRow w.heap.size 3 1 u9 ml (numV M)) := (by have h := DS_mid HDSZ.out hgrow2; rw [HML.out] at h; exact h))
              | (at_builtin; refine wpList_appN rfl (.tmp 95) (.tmp 97) rfl w.heap.size u9 ml (numV M) (nb) w3 HNM.out (by omega) hb3.size rfl rfl ?_; intro g' cap3 w4 hown3 hgrow3 hat3 hlt3))
            have HST := DS_step (w0 := w) (r := t) (d := nb) (ra := rb) (rc := sc) (vs := vs) (g := g) (cap := cap2) (g' := g') (cap' := cap3) HDSZ.out (by rw [HML.out]; exact HVSZ.out) HRV.out HRB.out (by rw [HML.out, HTL.out]; exact hown2) (by rw [HTL.out]; exact hgrow2) hat2 (by rw [HML.out]; exact hown3) hgrow3 hat3
            rw [HML.out] at HST
            go_roundw
            case rel => exact ⟨p, q + 1, _, by omega, by omega, rfl, by go_num, HST.1, HNEXT.out, hnx.trans HST.2⟩
            case measure => simp [intOf]; omega
          · have hqe : q = n := by omega
            subst hqe
            have HGET : Hid (∀ k, getK (kvOf M) k = getK (kvOf vb) k - getK (kvOf va) k) := fun k => by
              have h := HMG.out.get k
              rw [List.take_of_length_le (by rw [HN.out]; omega), List.take_of_length_le (by rw [HM.out]; omega)] at h
              exact h
            obtain ⟨aR, cR, aN, cN, hR, hN2, hrA, hnA⟩ := DS_form HDS.out hnx
            subst hR hN2
            have hMl := HMG.out.len
            have KT := told_any aR aN cR cN M wr hrA hnA HMG.out.ok HMG.out.cnt (by omega)
            obtain ⟨ml, hml⟩ : ∃ z, M.length = z := ⟨_, rfl⟩
            rw [hml] at KT
            rw [hml]
            clear hrA hnA HDS hml
            go_wp2_with fail
            refine KT.mono ?_
            rintro e w9 ⟨hres, hb9⟩
            have h9 := hnx.trans (hb9.mono hnx.size)
            rcases hres with ⟨hbig, rfl⟩ | ⟨hsm, oa, oc, rfl, hch⟩
            · have HBIG : Hid (4096 < (madeL M).length) := hbig
              clear hbig
              go_wp2
              go_ret2
              exact ⟨.inr (.inr ⟨HEA.out, HEB.out, M, HMG.out.ok, HMG.out.up, HGET.out, .inl ⟨HBIG.out, rfl⟩⟩), h9⟩
            · have HSM : Hid ((madeL M).length ≤ 4096) := hsm
              have HCH : Hid (chgsAt w9 oa (madeL M)) := hch
              obtain ⟨kl, hkl⟩ : ∃ z, (madeL M).length = z := ⟨_, rfl⟩
              have HKL : Hid ((madeL M).length = kl) := hkl
              rw [hkl]
              clear hsm hch hkl
              go_wp2
              go_ret2
              exact ⟨.inr (.inr ⟨HEA.out, HEB.out, M, HMG.out.ok, HMG.out.up, HGET.out, .inr ⟨HSM.out, oa, oc, ret_sl HKL.out.symm, HCH.out⟩⟩), h9⟩
    · have hve' : (eb == 0) = false := by simpa using e2
      go_wp2
      go_ret2
      exact ⟨.inr (.inl ⟨HEA.out, by rw [HEB.out]; exact e2, ret_str HEB.out.symm⟩), hw2⟩
  · have hve' : (ea == 0) = false := by simpa using e1
    go_wp2
    go_ret2
    exact ⟨.inl ⟨by rw [HEA.out]; exact e1, ret_str HEA.out.symm⟩, hb1⟩
end Go.Proofs.Ytkjiaeolodemlaf.ch
