/- each, with view's closure; and view: the view of which these are the counts. -/
import Derived.Test.YtkjiaeolodemlafChgState
namespace Go.Proofs.Ytkjiaeolodemlaf.ch
open Go.ChangeShapes Go.WideShapes Go.ChangeAt Go.RowKit Go.Maps Go.WideMaps Go.Sort
open vl
set_option linter.unusedVariables false
set_option linter.unusedSimpArgs false

theorem encStr_is (l : List UInt8) : encStr l = .string ⟨l.toArray⟩ := rfl
theorem row_form {w : World} {base : Nat} {e : TypeId} {size : Nat} {v : Value} {n : Nat} {xs : List Value} (h : w.ownsRow base e size v n xs) : ∃ ad cap, v = .slice ad n cap ∧ (0 < n → ∃ g, ad = some ⟨g, 0, none⟩) := by
  rcases h.2 with ⟨rfl, h0⟩ | ⟨g, cap, cur, rfl, _⟩
  · exact ⟨none, 0, by rw [h0], fun h => absurd h0 (by omega)⟩
  · exact ⟨_, _, rfl, fun _ => ⟨g, rfl⟩⟩
theorem row_cell {w : World} {base : Nat} {kv : KV} {g cap : Nat} (h : w.ownsRow base 9 1 (.slice (some ⟨g, 0, none⟩) kv.length cap) kv.length ((kv.map (·.1)).map encStr)) (i : Nat) (hi : i < kv.length) : w.cell? ⟨g, i, none⟩ = some (.string ⟨(kv.getD i ([], 0)).1.toArray⟩) := by
  have h1 := World.ownsRow.cells h (g := g) rfl i (.string ⟨(kv.getD i ([], 0)).1.toArray⟩) (by
    simp only [List.map_map, List.getElem?_map, List.getElem?_eq_getElem hi, Option.map_some, Function.comp, List.getD_eq_getElem?_getD, Option.getD_some, encStr_is])
  have e : (⟨g, 0, none⟩ : Addr).add i = ⟨g, i, none⟩ := by unfold Addr.add; split <;> simp_all
  rw [e] at h1
  exact h1
theorem kvOf_len (v : List Cnt) : (kvOf v).length = v.length := by simp [kvOf]
theorem kvOf_at (v : List Cnt) (i : Nat) (hi : i < v.length) : (kvOf v).getD i ([], 0) = (encR (v.getD i default).r, (v.getD i default).n) := by
  simp [kvOf, List.getD_eq_getElem?_getD, hi]
theorem getK_at {kv : KV} (hr : rising kv) (i : Nat) (hi : i < kv.length) : getK kv (kv.getD i ([], 0)).1 = (kv.getD i ([], 0)).2 := by
  induction kv generalizing i with
  | nil => exact absurd hi (Nat.not_lt_zero i)
  | cons p r ih =>
    cases i with
    | zero => simp [getK]
    | succ i =>
      have h1 := List.pairwise_cons.1 hr
      have hi' : i < r.length := by simpa using hi
      have e : (p :: r).getD (i + 1) ([], 0) = r.getD i ([], 0) := rfl
      rw [e]
      have hmem : r.getD i ([], 0) ∈ r := by simp [List.getD_eq_getElem?_getD, hi']
      have hne : ¬ p.1 = (r.getD i ([], 0)).1 := fun e => by
        have h2 := h1.1 _ hmem
        rw [e, before_lt] at h2
        exact absurd (of_decide_eq_true h2) (List.lt_irrefl _)
      have h3 := ih h1.2 i hi'
      unfold getK at h3 ⊢
      rw [List.find?_cons_of_neg (by simpa using hne)]
      exact h3
theorem cmap_fr {w w' : World} {B nn C : Nat} {o : Option Nat} {kv : KV} (h : cmap w B nn kv) (k : fr C o w w') (hC : B ≠ C) (ho : o ≠ some B) : cmap w' B nn kv := by
  have hlt := cmap_lt h
  obtain ⟨es, clock, h1, h2, h3, h4⟩ := h
  exact ⟨es, clock, by rw [k.block B hlt hC ho]; exact h1, h2, h3, h4⟩
theorem VS_below {w w' : World} {C base : Nat} {v : Value} {out : List Cnt} (h : VS w C base v out) (hb : Below w.heap.size w w') : VS w' C base v out := by
  have hClt : C < w.heap.size := World.block_lt_of_cell? _ _ h.cell
  obtain ⟨l, h1, h2, h3⟩ := h.rows
  refine ⟨cell_later hb h.cell, (hb.frozen (p := ⟨C, 0, none⟩) hClt).trans h.frz, h.apart, Nat.le_trans h.low hb.size, l, h1, own_below h2 hb, fun i hi => ?_⟩
  obtain ⟨e1, ad, cap, e2, e3, e4⟩ := h3 i hi
  exact ⟨e1, ad, cap, e2, own_below e3 hb, e4⟩
theorem take_cnt (v : List Cnt) (k : Nat) (h : k < v.length) (r : List Cel) (n : Int) (e : v.getD k default = ⟨r, n⟩) : v.take (k + 1) = v.take k ++ [⟨r, n⟩] := by rw [takeV v k h, e]
theorem str_of (l : List UInt8) : (⟨l.toArray⟩ : ByteArray).data.toList = l := rfl

set_option maxRecDepth 10000 in
set_option maxHeartbeats 8000000 in
theorem each_view (B nn : Nat) (out : List Cnt) (C base : Nat) (v0 : Value) (w : World) (hm : cmap w B nn (kvOf out)) (hr : rising (kvOf out)) (hok : ∀ c ∈ out, rowOk c.r) (hlen : out.length ≤ 100000)
    (hv : VS w C base v0 []) (hBC : B ≠ C) (hBv : v0.ownBlock ≠ some B) :
    Calls Try.prog 41 #[.map (some B), .func (.func 49) #[] #[.pointer (some ⟨C, 0, none⟩)]] w fun e w' => e = .returned (.tuple #[]) ∧ ∃ v, VS w' C base v out ∧ fr C v0.ownBlock w w' := by
  have HM : Hid (cmap w B nn (kvOf out)) := hm
  have HR : Hid (rising (kvOf out)) := hr
  have HV : Hid (VS w C base v0 []) := hv
  have HOK : Hid (∀ c ∈ out, rowOk c.r) := hok
  have hBlt := cmap_lt hm
  have hClt : C < w.heap.size := World.block_lt_of_cell? _ _ hv.cell
  clear hm hr hv hok
  have hkl := kvOf_len out
  obtain ⟨n, hn⟩ : ∃ n, out.length = n := ⟨_, rfl⟩
  have HN : Hid (out.length = n) := hn
  have HKN : Hid ((kvOf out).length = n) := by show (kvOf out).length = n; rw [hkl, hn]
  rw [hn] at hlen
  clear hkl hn
  go_enter Try.func41, Try.ntmps41
  go_wp2_with fail
  refine (keys_any B _).mono ?_
  rintro e w' ⟨rfl, rfl⟩
  go_wp2_with fail
  refine (sorted_any B nn (kvOf out) w HM.out HR.out (by rw [HKN.out]; omega)).mono ?_
  rintro e w1 ⟨⟨v, rfl, hrow⟩, hb1⟩
  obtain ⟨ks, kc, hv, hks⟩ := row_form hrow
  rw [HKN.out] at hv hks
  subst hv
  have HRW : Hid (w1.ownsRow (w.heap.size + 1) 9 1 (.slice ks n kc) (kvOf out).length (((kvOf out).map (·.1)).map encStr)) := hrow
  have hbw : Below w.heap.size w w1 := ((Below.refl _ _).alloc (Nat.le_refl _) _).trans (hb1.mono (by omega))
  have hs1 : w.heap.size + 1 ≤ w1.heap.size := by have := hb1.size; simpa using this
  clear hrow
  have hnov : ∀ b, v0.ownBlock = some b → b < w.heap.size := fun b hb => by
    obtain ⟨l, _, h2, _⟩ := HV.out.rows
    exact (own_lt h2 hb).2
  have HNV : Hid (∀ b, v0.ownBlock = some b → b < w.heap.size) := hnov
  have HV1 : Hid (VS w1 C base v0 []) := VS_below HV.out hbw
  have HM1 : Hid (cmap w1 B nn (kvOf out)) := cmap_below HM.out hbw
  clear hnov
  go_wp2
  go_loopw [10] (fun i wr => ∃ (k : Nat) (v : Value), k ≤ n ∧ i = .int .i64 k ∧ VS wr C base v (out.take k) ∧ fr C v0.ownBlock w1 wr ∧ (v.ownBlock = v0.ownBlock ∨ ∃ g, v.ownBlock = some g ∧ w1.heap.size ≤ g)) (fun i _ => n - (intOf i).toNat)
  case atStart => exact ⟨0, v0, by omega, rfl, HV1.out, ⟨rfl, rfl, rfl, Nat.le_refl _, fun _ _ _ _ => rfl⟩, .inl rfl⟩
  case round =>
    obtain ⟨k, v, hk, rfl, hvs, hfr, hvo⟩ := hrel
    have HVS : Hid (VS wr C base v (out.take k)) := hvs
    have HFR : Hid (fr C v0.ownBlock w1 wr) := hfr
    have HVO : Hid (v.ownBlock = v0.ownBlock ∨ ∃ g, v.ownBlock = some g ∧ w1.heap.size ≤ g) := hvo
    clear hvs hfr hvo
    by_cases hlt : k < n
    · obtain ⟨gk, hgk⟩ := hks (by omega)
      subst hgk
      have hko : k < out.length := by rw [HN.out]; exact hlt
      have hkk : k < (kvOf out).length := by rw [HKN.out]; exact hlt
      have hrow2 := HRW.out
      rw [← HKN.out] at hrow2
      have hgb := own_lt hrow2 (g := gk) rfl
      have hcw := row_cell hrow2 k hkk
      have hcr : wr.cell? ⟨gk, k, none⟩ = some (.string ⟨((kvOf out).getD k ([], 0)).1.toArray⟩) := (fr_cell HFR.out (p := ⟨gk, k, none⟩) hgb.2 (show gk ≠ C by omega) (fun e => by have := HNV.out gk e; omega)).trans hcw
      have HCM : Hid (cmap wr B nn (kvOf out)) := cmap_fr HM1.out HFR.out hBC hBv
      have HG := getK_at HR.out k hkk
      have hrk : rowOk (out.getD k default).r := HOK.out _ (by simp [List.getD_eq_getElem?_getD, hko])
      rw [kvOf_at out k hko] at hcr HG
      dsimp only at hcr HG
      obtain ⟨⟨r, m⟩, hcv⟩ : ∃ c, out.getD k default = c := ⟨_, rfl⟩
      have HT : Hid (out.take (k + 1) = out.take k ++ [⟨r, m⟩]) := take_cnt out k hko r m hcv
      rw [hcv] at hcr HG hrk
      dsimp only at hcr HG hrk
      have HRK : Hid (rowOk r) := hrk
      have hel := encR_len r (fun c hc => (hrk.2 c hc).1)
      have hr8 := hrk.1
      obtain ⟨key, hkey⟩ : ∃ x, (⟨(encR r).toArray⟩ : ByteArray) = x := ⟨_, rfl⟩
      have HKE : Hid (encR r = key.data.toList) := by show encR r = key.data.toList; rw [← hkey]
      have HKL : Hid (key.size ≤ maxLen) := by
        show key.size ≤ maxLen
        rw [← list_len, ← HKE.out]; unfold maxLen; omega
      rw [hkey] at hcr
      have HGG : Hid (getK (kvOf out) key.data.toList = m) := by show getK (kvOf out) key.data.toList = m; rw [← HKE.out]; exact HG
      clear hcv hkey HG hrk hel hr8 hcw hrow2
      obtain ⟨l, hll, hlo, hlr⟩ := HVS.out.rows
      have HLL : Hid (l.length = (out.take k).length) := hll
      have HLO : Hid (wr.ownsRow base 51 2 v l.length (flat l)) := hlo
      have HLR : Hid (∀ i, i < (out.take k).length → (l.getD i (.bool false, 0)).2 = ((out.take k).getD i default).n ∧ ∃ ad cap, (l.getD i (.bool false, 0)).1 = .slice ad ((out.take k).getD i default).r.length cap ∧ ownV wr base (.slice ad ((out.take k).getD i default).r.length cap) ((out.take k).getD i default).r ∧ ∀ g, (Value.slice ad ((out.take k).getD i default).r.length cap).ownBlock = some g → g ≠ C ∧ v.ownBlock ≠ some g) := hlr
      have hl6 : l.length ≤ 1000000 := by rw [hll, List.length_take, HN.out]; omega
      have HL6 : Hid (l.length ≤ 1000000) := hl6
      clear hll hlo hlr hl6
      have i1 : (0 : Int) ≤ (k : Int) := by omega
      have i2 : (k : Int) < (n : Int) := by omega
      go_wp2_with (first
        | (at_lookup; refine wpList_lookup_own_int _ rfl (.tmp 16) (.tmp 17) 40 rfl 9 3 .i64 law Try.underlying40 Try.underlying3 (zeroE _) B nn _ rfl HCM.out _ (.string key.data.toList) rfl (keyOf_string_mk Try.underlying9 HKL.out) ?_; intro c hat hwc; have hc : c = m := (cmap_at hat).trans HGG.out; clear hat; subst hc)
        | (go_at_call 49; refine (tell_any C base key _ v l r wr HVS.out.cell HVS.out.frz HLO.out HVS.out.apart HL6.out HVS.out.low HRK.out HKE.out HKL.out).mono ?_; rintro e w9 ⟨rfl, w2, w3, ad, cap, g, cap2, hb2, hov2, hown3, hgrow3, hat3, rfl⟩))
      have HST := VS_step HVS.out HLL.out HLO.out HLR.out hb2 hov2 hown3 hgrow3 hat3
      have hsw := HFR.out.size
      have hs2 : wr.heap.size ≤ w2.heap.size := hb2.size
      go_roundw
      case rel => exact ⟨k + 1, _, by omega, by go_num, by rw [HT.out]; exact HST.1, fr_trans HFR.out HST.2 HVO.out, by
        rcases hat3 with h1 | h1
        · rcases HVO.out with h2 | ⟨g', h2, h3⟩
          · exact .inl (by rw [← h2, h1]; rfl)
          · exact .inr ⟨g, rfl, by rw [h1] at h2; cases h2; exact h3⟩
        · exact .inr ⟨g, rfl, by omega⟩⟩
      case measure => simp [intOf]; omega
    · have HT : Hid (out.take k = out) := List.take_of_length_le (by rw [HN.out]; omega)
      go_wp2
      go_end0
      exact ⟨rfl, v, by have h := HVS.out; rw [HT.out] at h; exact h, fr_trans (below_fr hbw) HFR.out (.inl rfl)⟩

theorem flat_at (l : List (Value × Int)) (i : Nat) (hli : i < l.length) : (flat l)[i * 2]? = some (l.getD i (.bool false, 0)).1 ∧ (flat l)[i * 2 + 1]? = some (.int .i64 (l.getD i (.bool false, 0)).2) := by
  induction l generalizing i with
  | nil => exact absurd hli (Nat.not_lt_zero i)
  | cons p r ih =>
    have e : flat (p :: r) = p.1 :: .int .i64 p.2 :: flat r := rfl
    rw [e]
    cases i with
    | zero => exact ⟨rfl, rfl⟩
    | succ i =>
      have := ih i (by simpa using hli)
      rw [show (i + 1) * 2 = i * 2 + 1 + 1 by omega]
      simpa using this
theorem addr_add (g j : Nat) : ((⟨g, 0, none⟩ : Addr).add j) = ⟨g, 0 + j, none⟩ := by unfold Addr.add; split <;> simp_all
/-- a view that was made lies where its slice begins -/
theorem VS_view {w : World} {C base : Nat} {ad : Option Addr} {cap : Nat} {out : List Cnt} (h : VS w C base (.slice ad out.length cap) out) : viewAt w ad out := by
  intro i hi
  obtain ⟨l, hll, hlo, hlr⟩ := h.rows
  obtain ⟨e1, ra, rc, e2, e3, _⟩ := hlr i hi
  rcases hlo.2 with ⟨hv, h0⟩ | ⟨g, cap', cur, hv, h1, hg, h2⟩
  · rw [hll] at h0; omega
  · injection hv with ha _ _
    subst ha
    have hc := World.ownsRow.cells hlo (g := g) rfl
    have hli : i < l.length := by omega
    have f0 := flat_at l i hli
    have hadd := addr_add g
    refine ⟨g, 0, ra, rc, rfl, ?_, ownV_row e3, ?_⟩
    · have := hc _ _ f0.1; rw [hadd, e2] at this; exact this
    · have := hc _ _ f0.2; rw [hadd, e1] at this; exact this
theorem VS_len {w : World} {C base : Nat} {v : Value} {out : List Cnt} (h : VS w C base v out) : ∃ ad cap, v = .slice ad out.length cap := by
  obtain ⟨l, hll, hlo, hlr⟩ := h.rows
  obtain ⟨ad, cap, hv, _⟩ := row_form hlo
  exact ⟨ad, cap, by rw [hv, hll]⟩
end Go.Proofs.Ytkjiaeolodemlaf.ch
