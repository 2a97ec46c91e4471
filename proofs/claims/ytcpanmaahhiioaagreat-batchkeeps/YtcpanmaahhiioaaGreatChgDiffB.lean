/- Diff: the changes that make one view of another. -/
import Derived.Test.YtcpanmaahhiioaaGreatChgSteps
import Derived.Test.YtcpanmaahhiioaaGreatMgChgD
namespace Go.Proofs.YtcpanmaahhiioaaGreat.ch
open Go.ChangeShapes Go.WideShapes Go.ChangeAt Go.RowKit Go.Maps Go.WideMaps Go.Sort
open vl
set_option linter.unusedVariables false
set_option linter.unusedSimpArgs false

/-- counts, while those of another view are being taken off -/
structure less (kvA kvB kv : KV) (left : Lit → Bool) (j : Nat) : Prop where
  up : rising kv
  key : keyed kv
  len : kv.length ≤ j
  get : ∀ k, getK kv k = getK kvB k - if left (.string k) then 0 else getK kvA k
theorem less_start {kvA kvB : KV} (hb : good kvB) : less kvA kvB kvB (Maps.has (toD kvA)) kvB.length := by
  refine ⟨hb.up, hb.key, Nat.le_refl _, fun k => ?_⟩
  cases h : Maps.has (toD kvA) (.string k) with
  | true => simp
  | false => rw [has_none h]; simp
theorem less_step {kvA kvB kv : KV} {left : Lit → Bool} {j : Nat} (ha : good kvA) (h : less kvA kvB kv left j) {p : List UInt8 × Int} (hp : p ∈ kvA) (hl : left (.string p.1) = true) :
    less kvA kvB (putK kv p.1 (getK kv p.1 - p.2)) (fun z => left z && !z.sameKey (.string p.1)) (j + 1) := by
  obtain ⟨r, hr, er⟩ := ha.key p hp
  refine ⟨rising_put h.up _ _, by rw [← er]; exact keyed_put h.key hr _, ?_, fun k => ?_⟩
  · rw [len_put]
    have := len_del kv p.1
    have := h.len
    omega
  · rw [getK_put]
    by_cases e : k = p.1
    · subst e
      rw [if_pos rfl, h.get, hl, same_str]
      simp [getK_of ha.up hp]
    · have e2 : (k == p.1) = false := by simpa using e
      rw [if_neg e, h.get, same_str, e2]
      simp
theorem less_bound {kvA kvB kv : KV} {left : Lit → Bool} {j : Nat} (ha : good kvA) (hb : good kvB) (h : less kvA kvB kv left j) (k : List UInt8) : -1073741824 ≤ getK kv k ∧ getK kv k ≤ 1073741824 := by
  have h1 := good_get ha k
  have h2 := good_get hb k
  rw [h.get]
  split <;> omega
theorem less_end {kvA kvB kv : KV} {left : Lit → Bool} {j : Nat} (h : less kvA kvB kv left j) (hl : ∀ k, left k = false) (k : List UInt8) : getK kv k = getK kvB k - getK kvA k := by
  rw [h.get, hl]; simp

theorem less_mono {kvA kvB kv : KV} {left : Lit → Bool} {j i : Nat} (h : less kvA kvB kv left j) (hi : j ≤ i) : less kvA kvB kv left i := ⟨h.up, h.key, Nat.le_trans h.len hi, h.get⟩
theorem cmap_grown {w w' : World} {B nn : Nat} {row : Option Nat} {kv : KV} (h : cmap w B nn kv) (hg : w.grownBy w' row) (hne : some B ≠ row) : cmap w' B nn kv := by
  have hlt := cmap_lt h
  obtain ⟨es, clock, h1, h2, h3, h4⟩ := h
  exact ⟨es, clock, by rw [hg.block B hlt hne]; exact h1, h2, h3, h4⟩
def diffRes (a b : List Cnt) (e : Ending) (w' : World) : Prop :=
  (viewErr a ≠ 0 ∧ e = .returned (.tuple #[.slice none 0 0, .int .i64 (viewErr a)])) ∨
  (viewErr a = 0 ∧ viewErr b ≠ 0 ∧ e = .returned (.tuple #[.slice none 0 0, .int .i64 (viewErr b)])) ∨
  (viewErr a = 0 ∧ viewErr b = 0 ∧ viewOk a ∧ viewOk b ∧ ∃ out : List Cnt, (∀ c ∈ out, rowOk c.r) ∧ rising (kvOf out) ∧ (∀ k, getK (kvOf out) k = getK (kvOf b) k - getK (kvOf a) k) ∧
    ((4096 < (madeL out).length ∧ e = .returned (.tuple #[.slice none 0 0, .int .i64 2])) ∨
     ((madeL out).length ≤ 4096 ∧ ∃ ad cap, e = .returned (.tuple #[.slice ad (madeL out).length cap, .int .i64 0]) ∧ chgsAt w' ad (madeL out))))

set_option maxRecDepth 100000 in
set_option maxHeartbeats 8000000 in
theorem diff_any (a b : Option Addr) (ca cb : Nat) (va vb : List Cnt) (w : World) (hva : viewAt w a va) (hvb : viewAt w b vb) (wa : wfView va) (wb : wfView vb) (la : va.length ≤ 9223372036854775807) (lb : vb.length ≤ 9223372036854775807) :
    Calls Tryz.prog 24 #[.slice a va.length ca, .slice b vb.length cb] w fun e w' => diffRes va vb e w' ∧ Below w.heap.size w w' := by
  have KA := gather_any a ca va w hva wa la
  have KB : Hid (∀ w1, Below w.heap.size w w1 → Calls Tryz.prog 63 #[.slice b vb.length cb] w1 fun e w' => gatherRes vb w1.heap.size e w' ∧ Below w1.heap.size w1 w') := fun w1 hb => gather_any b cb vb w1 (viewAt_below hvb hb) wb lb
  clear hva hvb
  obtain ⟨m, hm⟩ : ∃ m, va.length = m := ⟨_, rfl⟩
  have HM : Hid (va.length = m) := hm
  obtain ⟨n, hn⟩ : ∃ n, vb.length = n := ⟨_, rfl⟩
  have HN : Hid (vb.length = n) := hn
  rw [hm] at KA la
  rw [hn] at KB lb
  rw [hm, hn]
  clear hm hn
  go_enter Tryz.func24, Tryz.ntmps24
  go_wp2_with fail
  refine KA.mono ?_
  rintro e w1 ⟨hres, hb1⟩
  rcases hres with ⟨hve, hvo, B, rfl, hB, hcm⟩ | ⟨hve, rfl⟩
  · have HVE : Hid (viewErr va = 0) := hve
    have HVO : Hid (viewOk va) := hvo
    have HCM : Hid (cmap w1 B va.length (kvOf va)) := hcm
    have hBlt := cmap_lt hcm
    clear hve hvo hcm KA
    go_wp2_with fail
    refine (KB.out w1 hb1).mono ?_
    rintro e w2 ⟨hres, hb2⟩
    have hw2 : Below w.heap.size w w2 := hb1.trans (hb2.mono hb1.size)
    rcases hres with ⟨hve, hvo, C, rfl, hC, hcm⟩ | ⟨hve, rfl⟩
    · have HVE2 : Hid (viewErr vb = 0) := hve
      have HVO2 : Hid (viewOk vb) := hvo
      have HCB : Hid (cmap w2 C vb.length (kvOf vb)) := hcm
      have HCA : Hid (w2.ownsMap Tryz.prog 9 (plainElem (H := Unit) Tryz.prog 3) B va.length (toD (kvOf va))) := cmap_below HCM.out hb2
      have hClt := cmap_lt hcm
      have HGA : Hid (good (kvOf va)) := view_good wa HVO.out
      have HGB : Hid (good (kvOf vb)) := view_good wb HVO2.out
      have hm4 : m ≤ 4096 := by rw [← HM.out]; exact HVO.out.1
      have hn4 : n ≤ 4096 := by rw [← HN.out]; exact HVO2.out.1
      have HSZ : Hid (Maps.size (toD (kvOf va)) = m) := by show Maps.size (toD (kvOf va)) = m; rw [toD_size, kvOf_len, HM.out]
      have hs1 := hb1.size
      have hs2 := hb2.size
      have hCB : C ≠ B := by omega
      have hwC : w.heap.size ≤ C := by omega
      clear hve hvo hcm HCM
      go_wp2_with (at_range; refine wpList_range_own _ rfl (.tmp 27) 100 rfl 9 3 law Tryz.underlying100 _ B va.length _ rfl HCA.out ?_; intro w0 hrg0 hg0 hs0)
      go_frame
      rw [HSZ.out] at hrg0
      have HRG0 : Hid (w0.ranges Tryz.prog 9 (plainElem (H := Unit) Tryz.prog 3) B w2.heap.size va.length (toD (kvOf va)) (Maps.has (toD (kvOf va))) m) := hrg0
      have hb0 : Below w.heap.size w w0 := hw2.grown hg0 hw2.size (fun k hk => by cases hk)
      have HC0 : Hid (cmap w0 C n (kvOf vb)) := by
        show cmap w0 C n (kvOf vb)
        rw [← HN.out]
        exact cmap_below HCB.out ((Below.refl _ _).grown hg0 (Nat.le_refl _) (fun k hk => by cases hk))
      clear hrg0 hg0
      go_loopw [] (fun wr => ∃ left cnt kv, wr.ranges Tryz.prog 9 (plainElem (H := Unit) Tryz.prog 3) B w2.heap.size va.length (toD (kvOf va)) left cnt ∧ cnt ≤ m ∧ cmap wr C (n + (m - cnt)) kv ∧ less (kvOf va) (kvOf vb) kv left (n + (m - cnt)) ∧ Below w.heap.size w wr) (fun wr => wr.rangeLeft B w2.heap.size)
      case atStart => exact ⟨_, m, kvOf vb, HRG0.out, Nat.le_refl _, by rw [Nat.sub_self]; exact HC0.out, by
        have h := less_start (kvA := kvOf va) HGB.out
        rw [kvOf_len, HN.out] at h
        rw [Nat.sub_self]; exact h, hb0⟩
      case round =>
        obtain ⟨left, cnt, kv, hrg, hcnt, hcm, hle, hnx⟩ := hrel
        have HRG : Hid (wr.ranges Tryz.prog 9 (plainElem (H := Unit) Tryz.prog 3) B w2.heap.size va.length (toD (kvOf va)) left cnt) := hrg
        have HLE : Hid (wr.rangeLeft B w2.heap.size = cnt) := hrg.left_eq
        have HCM : Hid (cmap wr C (n + (m - cnt)) kv) := hcm
        have HL : Hid (less (kvOf va) (kvOf vb) kv left (n + (m - cnt))) := hle
        clear hrg hcm hle
        go_wp2_with (at_next; refine wpList_next_ranges _ rfl (.tmp 28) rfl 9 law _ (fun s : ByteArray => .string s) (fun c : Int => .int .i64 c) (fun key kl hk => Maps.keyOf_string_inv Tryz.underlying9 hk) (fun v y hv => by obtain ⟨c, h, _⟩ := plainElem_int_inv Tryz.underlying3 hv; exact ⟨c, h⟩) B w2.heap.size va.length _ left cnt rfl HRG.out ?_ ?_)
        · intro hc0 hl0
          have HEND : Hid (∀ k, getK kv k = getK (kvOf vb) k - getK (kvOf va) k) := less_end HL.out hl0
          obtain ⟨out, ho1, ho2⟩ := keyed_out HL.out.key
          have hkl := HL.out.len
          have KS := steps_any C (n + (m - cnt)) kv wr HCM.out HL.out.up (by omega) (fun p hp => by
            have h1 := less_bound HGA.out HGB.out HL.out p.1
            rw [getK_of HL.out.up hp] at h1
            omega)
          have HO1 : Hid (kvOf out = kv) := ho1
          have HO2 : Hid (∀ c ∈ out, rowOk c.r) := ho2
          have HML : Hid ((madeL out).length = sumAbs kv) := by show (madeL out).length = sumAbs kv; rw [made_len, ho1]
          have hol : out.length ≤ 100000 := by
            have : out.length = kv.length := by rw [← ho1, kvOf_len]
            omega
          have HDI : Hid ((dels out).length + (inss out).length = (madeL out).length) := by
            show (dels out).length + (inss out).length = (madeL out).length
            unfold madeL; rw [List.length_append]
          clear hl0 ho1 ho2 hkl
          obtain ⟨sm, hsm⟩ : ∃ x, sumAbs kv = x := ⟨_, rfl⟩
          rw [hsm] at KS HML
          clear hsm
          by_cases hbig : 4096 < sm
          · have hbI : (4096 : Int) < (sm : Int) := by omega
            go_wp2_with (go_at_call 69; refine KS.mono ?_; rintro e w9 ⟨rfl, hb9⟩)
            go_ret2
            exact ⟨.inr (.inr ⟨HVE.out, HVE2.out, HVO.out, HVO2.out, out, HO2.out, by rw [HO1.out]; exact HL.out.up, by rw [HO1.out]; exact HEND.out, .inl ⟨by rw [HML.out]; exact hbig, rfl⟩⟩), hnx.trans (hb9.mono hnx.size)⟩
          · have hbI : ¬ (4096 : Int) < (sm : Int) := by omega
            have KC : Hid (∀ w9, Below wr.heap.size wr w9 → Calls Tryz.prog 70 #[.map (some C)] w9 fun e w' => (∃ ad cap, e = .returned (.slice ad (dels out ++ inss out).length cap) ∧ chgsAt w' ad (dels out ++ inss out)) ∧ Below w9.heap.size w9 w') := fun w9 hb9 =>
              changes_any C (n + (m - cnt)) out w9 (by rw [HO1.out]; exact cmap_below HCM.out hb9) (by rw [HO1.out]; exact HL.out.up) HO2.out hol (by have := HDI.out; rw [HML.out] at this; omega) (by have := HDI.out; rw [HML.out] at this; omega)
            have hlen : (dels out ++ inss out).length = sm := HML.out
            rw [hlen] at KC
            clear hlen hol
            go_wp2_with (first
              | (go_at_call 69; refine KS.mono ?_; rintro e w9 ⟨rfl, hb9⟩)
              | (go_at_call 70; refine (KC.out _ hb9).mono ?_; rintro e w10 ⟨⟨oa, oc, rfl, hva⟩, hb10⟩))
            go_ret2
            have h9 := hnx.trans (hb9.mono hnx.size)
            exact ⟨.inr (.inr ⟨HVE.out, HVE2.out, HVO.out, HVO2.out, out, HO2.out, by rw [HO1.out]; exact HL.out.up, by rw [HO1.out]; exact HEND.out, .inr ⟨by rw [HML.out]; omega, oa, oc, ret_sl HML.out.symm, hva⟩⟩), h9.trans (hb10.mono h9.size)⟩
        · intro s c kl ya yb w3 cnt1 hkey hlx hv hat hrg1 hlt hg1 hs1 hen
          have hkl := key_str hkey rfl
          subst hkl
          obtain ⟨p, hp, hpk, hya⟩ := at_all hat
          obtain ⟨c', e1, e2, _⟩ := plainElem_int_inv Tryz.underlying3 hv
          have hpc : c = p.2 := by
            cases e1
            have := congrArg Prod.fst e2
            dsimp only at this
            rw [hya] at this
            cases this
            rfl
          have hcb := HGA.out.cnt p hp
          have hg0 := less_bound HGA.out HGB.out HL.out p.1
          rw [← hpk] at hlx hrg1
          have hst := less_step HGA.out HL.out hp hlx
          rw [← hpc] at hst hcb
          rw [hpk] at hst hrg1 hg0
          have HRG1 : Hid (w3.ranges Tryz.prog 9 (plainElem (H := Unit) Tryz.prog 3) B w2.heap.size va.length (toD (kvOf va)) (fun z => left z && !z.sameKey (.string s.data.toList)) cnt1) := hrg1
          have HST : Hid (less (kvOf va) (kvOf vb) (putK kv s.data.toList (getK kv s.data.toList - c)) (fun z => left z && !z.sameKey (.string s.data.toList)) (n + (m - cnt) + 1)) := hst
          have HC3 : Hid (w3.ownsMap Tryz.prog 9 (plainElem (H := Unit) Tryz.prog 3) C (n + (m - cnt)) (toD kv)) := cmap_grown HCM.out hg1 (fun e => by cases e; omega)
          have HKY : Hid (keyOf Tryz.prog 9 (.string s) = some (.string s.data.toList)) := hkey
          have hnx1 : Below w.heap.size w w3 := hnx.grown hg1 hnx.size (fun x hx => by cases hx; exact hw2.size)
          obtain ⟨g0, hgk⟩ : ∃ x, getK kv s.data.toList = x := ⟨_, rfl⟩
          have HGK : Hid (getK kv s.data.toList = g0) := hgk
          rw [hgk] at HST hg0
          clear hkey hlx hv hat hrg1 hg1 hst e1 e2 hya hpc hpk hs1 hgk hp
          have hwn : IntKind.i64.wrap (g0 - c) = g0 - c := by rw [wrap_is]; omega
          go_wp2_with (first
            | (at_lookup; refine wpList_lookup_own_int _ rfl (.tmp 34) (.tmp 35) 100 rfl 9 3 .i64 law Tryz.underlying100 Tryz.underlying3 (zeroE _) C (n + (m - cnt)) _ rfl HC3.out _ (.string s.data.toList) rfl HKY.out ?_; intro c0 hat hwc; have hc : c0 = g0 := (cmap_at hat).trans HGK.out; clear hat; subst hc)
            | (at_mapUpdate; refine wpList_mapUpdate_own _ rfl (.tmp 34) (.tmp 35) (.tmp 38) 100 rfl 9 3 law Tryz.underlying100 _ C (n + (m - cnt)) _ rfl HC3.out (by unfold maxLen; omega) _ _ (.string s.data.toList) rfl rfl HKY.out _ [] (plainElem_int Tryz.underlying3 (WalkArith.wf_i64 (by omega))) ?_; intro w4 hown1 hgrow1))
          simp only [Act.put]
          go_roundw
          case rel => exact ⟨_, cnt1, _, HRG1.out.kept hgrow1 (fun e => by cases e; exact hCB rfl) (fun e => by cases e; omega), by omega, (show cmap w4 C _ _ from World.ownsMap.mono (cmap_put hown1) (by omega)), less_mono HST.out (by omega), hnx1.grown hgrow1 hnx1.size (fun x hx => by cases hx; exact hwC)⟩
          case measure => rw [(HRG1.out.kept hgrow1 (fun e => by cases e; exact hCB rfl) (fun e => by cases e; omega)).left_eq, HLE.out]; exact hlt
    · have hve' : (viewErr vb == 0) = false := by simpa using hve
      have HV2 : Hid (viewErr vb ≠ 0) := hve
      clear hve
      obtain ⟨x, hx⟩ : ∃ x, viewErr vb = x := ⟨_, rfl⟩
      have HX : Hid (viewErr vb = x) := hx
      rw [hx] at hve' ⊢
      clear hx
      go_wp2
      go_ret2
      exact ⟨.inr (.inl ⟨HVE.out, HV2.out, ret_str HX.out.symm⟩), hw2⟩
  · have hve' : (viewErr va == 0) = false := by simpa using hve
    have HVE : Hid (viewErr va ≠ 0) := hve
    clear hve
    obtain ⟨x, hx⟩ : ∃ x, viewErr va = x := ⟨_, rfl⟩
    have HX : Hid (viewErr va = x) := hx
    rw [hx] at hve' ⊢
    clear hx
    go_wp2
    go_ret2
    exact ⟨.inl ⟨HVE.out, ret_str HX.out.symm⟩, hb1⟩
end Go.Proofs.YtcpanmaahhiioaaGreat.ch
