/- each, with changes' closure; and changes: Deletes of the counts below 0, Inserts of those above, in memory of their own. -/
import Derived.Test.YtkjiaeolodemlafChgMade
import Derived.Test.YtkjiaeolodemlafChgGood
import Derived.Laws.AppendOwnNone
namespace Go.Proofs.Ytkjiaeolodemlaf.ch
open Go.ChangeShapes Go.WideShapes Go.ChangeAt Go.RowKit Go.Maps Go.WideMaps Go.Sort
open vl
set_option linter.unusedVariables false
set_option linter.unusedSimpArgs false

def dels (out : List Cnt) : List Chg := out.flatMap fun c => List.replicate (-c.n).toNat ⟨2, c.r⟩
def inss (out : List Cnt) : List Chg := out.flatMap fun c => List.replicate c.n.toNat ⟨1, c.r⟩
theorem dels_snoc (v : List Cnt) (c : Cnt) : dels (v ++ [c]) = dels v ++ List.replicate (-c.n).toNat ⟨2, c.r⟩ := by
  unfold dels; rw [List.flatMap_append]; simp
theorem inss_snoc (v : List Cnt) (c : Cnt) : inss (v ++ [c]) = inss v ++ List.replicate c.n.toNat ⟨1, c.r⟩ := by
  unfold inss; rw [List.flatMap_append]; simp
theorem dels_take (v : List Cnt) (k : Nat) : (dels (v.take k)).length ≤ (dels v).length := by
  have : dels v = dels (v.take k) ++ dels (v.drop k) := by
    unfold dels; rw [← List.flatMap_append, List.take_append_drop]
  rw [this, List.length_append]; omega
theorem inss_take (v : List Cnt) (k : Nat) : (inss (v.take k)).length ≤ (inss v).length := by
  have : inss v = inss (v.take k) ++ inss (v.drop k) := by
    unfold inss; rw [← List.flatMap_append, List.take_append_drop]
  rw [this, List.length_append]; omega
theorem nil_new (N : Nat) : newer N (.slice none 0 0) := fun g h => by cases h

set_option maxRecDepth 10000 in
set_option maxHeartbeats 8000000 in
theorem each_changes (B nn : Nat) (out : List Cnt) (C D base : Nat) (w : World) (hm : cmap w B nn (kvOf out)) (hr : rising (kvOf out)) (hok : ∀ c ∈ out, rowOk c.r) (hlen : out.length ≤ 100000)
    (hd9 : (dels out).length ≤ 100000000) (hi9 : (inss out).length ≤ 100000000) (hv : TS w C D base (.slice none 0 0) (.slice none 0 0) [] []) (hBC : B ≠ C) (hBD : B ≠ D) :
    Calls Try.prog 41 #[.map (some B), .func (.func 42) #[] #[.pointer (some ⟨C, 0, none⟩), .pointer (some ⟨D, 0, none⟩)]] w fun e w' => e = .returned (.tuple #[]) ∧ ∃ v u, TS w' C D base v u (dels out) (inss out) ∧ fr2 C D w.heap.size w w' := by
  have HM : Hid (cmap w B nn (kvOf out)) := hm
  have HR : Hid (rising (kvOf out)) := hr
  have HV : Hid (TS w C D base (.slice none 0 0) (.slice none 0 0) [] []) := hv
  have HOK : Hid (∀ c ∈ out, rowOk c.r) := hok
  have HD9 : Hid ((dels out).length ≤ 100000000) := hd9
  have HI9 : Hid ((inss out).length ≤ 100000000) := hi9
  have hBlt := cmap_lt hm
  have hClt : C < w.heap.size := World.block_lt_of_cell? _ _ hv.c1
  have hDlt : D < w.heap.size := World.block_lt_of_cell? _ _ hv.c2
  clear hm hr hv hok hd9 hi9
  have hkl := kvOf_len out
  obtain ⟨n, hn⟩ : ∃ n, out.length = n := ⟨_, rfl⟩
  have HN : Hid (out.length = n) := hn
  have HKN : Hid ((kvOf out).length = n) := by show (kvOf out).length = n; rw [hkl, hn]
  rw [hn] at hlen
  clear hkl hn
  go_enter Try.func41, Try.ntmps41
  go_wp2_with fail
  refine (keys_any B _).mono ?_
  rintro e w' ⟨rfl, rfl⟩
  go_wp2_with fail
  refine (sorted_any B nn (kvOf out) w HM.out HR.out (by rw [HKN.out]; omega)).mono ?_
  rintro e w1 ⟨⟨v, rfl, hrow⟩, hb1⟩
  obtain ⟨ks, kc, hv, hks⟩ := row_form hrow
  rw [HKN.out] at hv hks
  subst hv
  have HRW : Hid (w1.ownsRow (w.heap.size + 1) 9 1 (.slice ks n kc) (kvOf out).length (((kvOf out).map (·.1)).map encStr)) := hrow
  have hbw : Below w.heap.size w w1 := ((Below.refl _ _).alloc (Nat.le_refl _) _).trans (hb1.mono (by omega))
  have hs1 : w.heap.size + 1 ≤ w1.heap.size := by have := hb1.size; simpa using this
  clear hrow
  have HV1 : Hid (TS w1 C D base (.slice none 0 0) (.slice none 0 0) [] []) := TS_below HV.out hbw
  have HM1 : Hid (cmap w1 B nn (kvOf out)) := cmap_below HM.out hbw
  go_wp2
  go_loopw [10] (fun i wr => ∃ (k : Nat) (v u : Value), k ≤ n ∧ i = .int .i64 k ∧ TS wr C D base v u (dels (out.take k)) (inss (out.take k)) ∧ newer w1.heap.size v ∧ newer w1.heap.size u ∧ fr2 C D w1.heap.size w1 wr) (fun i _ => n - (intOf i).toNat)
  case atStart => exact ⟨0, _, _, by omega, rfl, HV1.out, nil_new _, nil_new _, fr2_refl _ _ _ _⟩
  case round =>
    obtain ⟨k, v, u, hk, rfl, hts, hnv, hnu, hfr⟩ := hrel
    have HTS : Hid (TS wr C D base v u (dels (out.take k)) (inss (out.take k))) := hts
    have HFR : Hid (fr2 C D w1.heap.size w1 wr) := hfr
    have HNV : Hid (newer w1.heap.size v) := hnv
    have HNU : Hid (newer w1.heap.size u) := hnu
    clear hts hfr hnv hnu
    by_cases hlt : k < n
    · obtain ⟨gk, hgk⟩ := hks (by omega)
      subst hgk
      have hko : k < out.length := by rw [HN.out]; exact hlt
      have hkk : k < (kvOf out).length := by rw [HKN.out]; exact hlt
      have hrow2 := HRW.out
      rw [← HKN.out] at hrow2
      have hgb := own_lt hrow2 (g := gk) rfl
      have hcw := row_cell hrow2 k hkk
      have hcr : wr.cell? ⟨gk, k, none⟩ = some (.string ⟨((kvOf out).getD k ([], 0)).1.toArray⟩) := (fr2_cell HFR.out (p := ⟨gk, k, none⟩) hgb.2 (show gk ≠ C by omega) (show gk ≠ D by omega)).trans hcw
      have HCM : Hid (cmap wr B nn (kvOf out)) := cmap_fr2 HM1.out HFR.out (by omega) hBC hBD
      have HG := getK_at HR.out k hkk
      have hrk : rowOk (out.getD k default).r := HOK.out _ (by simp [List.getD_eq_getElem?_getD, hko])
      rw [kvOf_at out k hko] at hcr HG
      dsimp only at hcr HG
      obtain ⟨⟨r, m⟩, hcv⟩ : ∃ c, out.getD k default = c := ⟨_, rfl⟩
      have ht := take_cnt out k hko r m hcv
      have HTD : Hid (dels (out.take (k + 1)) = dels (out.take k) ++ List.replicate (-m).toNat ⟨2, r⟩) := by show dels (out.take (k + 1)) = _; rw [ht, dels_snoc]
      have HTI : Hid (inss (out.take (k + 1)) = inss (out.take k) ++ List.replicate m.toNat ⟨1, r⟩) := by show inss (out.take (k + 1)) = _; rw [ht, inss_snoc]
      have hdl : (dels (out.take k)).length + (-m).toNat ≤ 100000000 := by
        have h1 := dels_take out (k + 1)
        have h2 := HD9.out
        rw [HTD.out, List.length_append, List.length_replicate] at h1
        omega
      have hil : (inss (out.take k)).length + m.toNat ≤ 100000000 := by
        have h1 := inss_take out (k + 1)
        have h2 := HI9.out
        rw [HTI.out, List.length_append, List.length_replicate] at h1
        omega
      rw [hcv] at hcr HG hrk
      dsimp only at hcr HG hrk
      have HRK : Hid (rowOk r) := hrk
      obtain ⟨key, hkey⟩ : ∃ x, (⟨(encR r).toArray⟩ : ByteArray) = x := ⟨_, rfl⟩
      have HKE : Hid (encR r = key.data.toList) := by show encR r = key.data.toList; rw [← hkey]
      have hel := encR_len r (fun c hc => (hrk.2 c hc).1)
      have hr8 := hrk.1
      have HKL : Hid (key.size ≤ maxLen) := by
        show key.size ≤ maxLen
        rw [← list_len, ← HKE.out]; unfold maxLen; omega
      rw [hkey] at hcr
      have HGG : Hid (getK (kvOf out) key.data.toList = m) := by show getK (kvOf out) key.data.toList = m; rw [← HKE.out]; exact HG
      have KM : Hid (Calls Try.prog 42 #[.string key, .int .i64 m, .pointer (some ⟨C, 0, none⟩), .pointer (some ⟨D, 0, none⟩)] wr fun e w' => e = .returned (.tuple #[]) ∧
          ∃ v' u', TS w' C D base v' u' (dels (out.take (k + 1))) (inss (out.take (k + 1))) ∧ newer w1.heap.size v' ∧ newer w1.heap.size u' ∧ fr2 C D w1.heap.size wr w') := by
        rw [HTD.out, HTI.out]
        exact made_any C D base w1.heap.size key m v u _ _ r wr HTS.out HNV.out HNU.out HFR.out.size HRK.out HKE.out HKL.out (by omega) (by omega) (by omega) (by omega)
      clear hcv hkey HG hrk hel hr8 hcw hrow2 ht HTD HTI hdl hil
      have i1 : (0 : Int) ≤ (k : Int) := by omega
      have i2 : (k : Int) < (n : Int) := by omega
      go_wp2_with (first
        | (at_lookup; refine wpList_lookup_own_int _ rfl (.tmp 16) (.tmp 17) 40 rfl 9 3 .i64 law Try.underlying40 Try.underlying3 (zeroE _) B nn _ rfl HCM.out _ (.string key.data.toList) rfl (keyOf_string_mk Try.underlying9 HKL.out) ?_; intro c hat hwc; have hc : c = m := (cmap_at hat).trans HGG.out; clear hat; subst hc)
        | (go_at_call 42; refine KM.out.mono ?_; rintro e w9 ⟨rfl, v', u', hts2, hnv2, hnu2, hfr2⟩))
      go_roundw
      case rel => exact ⟨k + 1, v', u', by omega, by go_num, hts2, hnv2, hnu2, fr2_trans HFR.out hfr2⟩
      case measure => simp [intOf]; omega
    · have HT : Hid (out.take k = out) := List.take_of_length_le (by rw [HN.out]; omega)
      go_wp2
      go_end0
      exact ⟨rfl, v, u, by have h := HTS.out; rw [HT.out] at h; exact h, ⟨HFR.out.os.trans hbw.os, HFR.out.tape.trans hbw.tape, HFR.out.output.trans hbw.output, Nat.le_trans hbw.size HFR.out.size, fun b hb h1 h2 => (HFR.out.block b (by omega) h1 h2).trans (hbw.block b hb)⟩⟩

theorem rowsC_app {w : World} {base : Nat} {no : Nat → Prop} {p q : List (Int × Value)} {l m : List Chg} (h : rowsC w base no p l) (k : rowsC w base no q m) (hp : p.length = l.length) : rowsC w base no (p ++ q) (l ++ m) := by
  intro i hi
  by_cases hlt : i < l.length
  · have := h i hlt
    simp only [List.getD_eq_getElem?_getD] at this ⊢
    rw [List.getElem?_append_left hlt, List.getElem?_append_left (by omega)]
    exact this
  · rw [List.length_append] at hi
    have := k (i - l.length) (by omega)
    simp only [List.getD_eq_getElem?_getD] at this ⊢
    rw [List.getElem?_append_right (by omega), List.getElem?_append_right (by omega), hp]
    exact this
theorem flatC_app (p q : List (Int × Value)) : flatC (p ++ q) = flatC p ++ flatC q := by unfold flatC; rw [List.flatMap_append]
theorem flatC_one {p : List (Int × Value)} (h : ∀ x ∈ p, x.2.oneCell' = true) : ∀ u ∈ flatC p, u.oneCell' = true := by
  intro u hu
  unfold flatC at hu
  obtain ⟨x, hx, hu⟩ := List.mem_flatMap.1 hu
  simp at hu
  rcases hu with rfl | rfl
  · rfl
  · exact h x hx
theorem rowsC_one {w : World} {base : Nat} {no : Nat → Prop} {p : List (Int × Value)} {l : List Chg} (h : rowsC w base no p l) (hp : p.length = l.length) : ∀ x ∈ p, x.2.oneCell' = true := by
  intro x hx
  obtain ⟨i, hi, rfl⟩ := List.getElem_of_mem hx
  obtain ⟨_, ad, cap, e2, _, _⟩ := h i (by omega)
  rw [List.getD_eq_getElem?_getD, List.getElem?_eq_getElem hi, Option.getD_some] at e2
  rw [e2]; rfl
/-- changes that were made lie where their slice begins -/
theorem CR_chgs {w : World} {base : Nat} {ad : Option Addr} {cap : Nat} {no : Nat → Prop} {l : List Chg} {n : Nat} (h : CR w base (.slice ad n cap) no l) : chgsAt w ad l ∧ n = l.length := by
  obtain ⟨p, hpl, hpo, hpr⟩ := h
  obtain ⟨ad', cap', hv, _⟩ := row_form hpo
  have hn : n = p.length := by injection hv
  refine ⟨?_, by omega⟩
  intro i hi
  obtain ⟨e1, ra, rc, e2, e3, _⟩ := hpr i hi
  rcases hpo.2 with ⟨hv, h0⟩ | ⟨g, cap', cur, hv, h1, hg, h2⟩
  · omega
  · injection hv with ha _ _
    subst ha
    have hc := World.ownsRow.cells hpo (g := g) rfl
    have f0 := flatC_at p i (by omega)
    refine ⟨g, 0, ra, rc, rfl, ?_, ?_, ownV_row e3⟩
    · have := hc _ _ f0.1; rw [addr_add, e1] at this; exact this
    · have := hc _ _ f0.2; rw [addr_add, e2] at this; exact this
end Go.Proofs.Ytkjiaeolodemlaf.ch
