/- The document's place: where a row stands in a view, or would stand. -/
import Derived.Test.YtkjiaeolodemlaeChgFold
namespace Go.Proofs.Ytkjiaeolodemlae.ch
open Go.ChangeShapes Go.WideShapes Go.ChangeAt Go.RowKit Go.Maps Go.WideMaps
open vl
set_option linter.unusedVariables false
set_option linter.unusedSimpArgs false

theorem cmp_gt2 {a b : List Cel} (ha : rowOk a) (hb : rowOk b) (h : 0 < cmpRows a b) : bytesBefore (encR b) (encR a) = true := by
  have h1 := cmpB_rows a b ha.2 hb.2
  have h2 := less_cmp (encR a) (encR b)
  rw [h1] at h2
  refine before_total _ _ ?_ ?_
  · cases e : bytesBefore (encR a) (encR b) with
    | false => rfl
    | true =>
      rw [before_lt] at e
      rw [less_lt, e, if_pos rfl] at h2
      omega
  · intro e
    have : Lib.compareBytes (encR a) (encR b) = 0 := cmpB_zero.2 e
    omega
theorem cmp_eq2 {a b : List Cel} (ha : rowOk a) (hb : rowOk b) (h : cmpRows a b = 0) : a = b := by
  have h1 := cmpB_rows a b ha.2 hb.2
  exact encR_inj ha.2 hb.2 (cmpB_zero.1 (by rw [h1, h]))
/-- rows before i are less, rows from i on are greater (but that at i, where it is the same) -/
def lower (v : List Cnt) (k : List UInt8) (i : Nat) : Prop := ∀ j, j < i → bytesBefore (encR (v.getD j default).r) k = true
def upper (v : List Cnt) (k : List UInt8) (i : Nat) : Prop := ∀ j, i ≤ j → j < v.length → bytesBefore k (encR (v.getD j default).r) = true
def placeRes (v : List Cnt) (r : List Cel) (e : Ending) : Prop := ∃ i : Nat, i ≤ v.length ∧ lower v (encR r) i ∧
  ((i < v.length ∧ (v.getD i default).r = r ∧ upper v (encR r) (i + 1) ∧ e = .returned (.tuple #[.int .i64 i, .bool true])) ∨ (upper v (encR r) i ∧ e = .returned (.tuple #[.int .i64 i, .bool false])))

set_option maxRecDepth 10000 in
set_option maxHeartbeats 4000000 in
theorem place_any (a c : Option Addr) (ca cc : Nat) (v : List Cnt) (r : List Cel) (w : World) (hv : viewAt w a v) (hw : wfView v) (ho : viewOk v) (hr : vl.rowAt w c r) (hok : rowOk r) :
    Calls Try.prog 50 #[.slice a v.length ca, .slice c r.length cc] w fun e w' => placeRes v r e ∧ Below w.heap.size w w' := by
  have HR : Hid (vl.rowAt w c r) := hr
  have HOK : Hid (rowOk r) := hok
  have HO : Hid (viewOk v) := ho
  have hr8 := hok.1
  have hn4 := ho.1
  obtain ⟨n, hn⟩ : ∃ n, v.length = n := ⟨_, rfl⟩
  have HN : Hid (v.length = n) := hn
  obtain ⟨rl, hrl⟩ : ∃ n, r.length = n := ⟨_, rfl⟩
  have HRL : Hid (r.length = rl) := hrl
  rw [hn] at hn4
  rw [hrl] at hr8
  rw [hn, hrl]
  clear hn hrl hr hok ho
  go_enter Try.func50, Try.ntmps50
  go_wp2
  go_loopw [6, 7] (fun lo hi wr => ∃ p q : Nat, p ≤ q ∧ q ≤ n ∧ lo = .int .i64 p ∧ hi = .int .i64 q ∧ lower v (encR r) p ∧ upper v (encR r) q ∧ Below w.heap.size w wr) (fun lo hi _ => (intOf hi).toNat - (intOf lo).toNat)
  case atStart => exact ⟨0, n, Nat.zero_le _, Nat.le_refl _, rfl, rfl, fun j hj => absurd hj (Nat.not_lt_zero j), fun j hj hj2 => absurd hj2 (by rw [HN.out]; omega), Below.refl _ _⟩
  case round =>
    obtain ⟨p, q, hpq, hqn, rfl, rfl, hlo, hup, hnx⟩ := hrel
    have HLO : Hid (lower v (encR r) p) := hlo
    have HUP : Hid (upper v (encR r) q) := hup
    clear hlo hup
    by_cases hlt : p < q
    · obtain ⟨m, hm⟩ : ∃ m, (p + q) / 2 = m := ⟨_, rfl⟩
      have hm1 : p ≤ m := by omega
      have hm2 : m < q := by omega
      have hws : IntKind.i64.wrap ((p : Int) + (q : Int)) = (p : Int) + (q : Int) := by rw [wrap_is]; omega
      have hdv : ((p : Int) + (q : Int)).tdiv 2 = (m : Int) := by rw [Int.tdiv_eq_ediv_of_nonneg (by omega)]; omega
      have hdv2 : ((p : Int) + (q : Int)) / 2 = (m : Int) := by omega
      have hwm : IntKind.i64.wrap (m : Int) = (m : Int) := by rw [wrap_is]; omega
      have hml : m < v.length := by rw [HN.out]; omega
      obtain ⟨b, o, ra, rc, e, x1, x2, x3⟩ := hv m hml
      subst e
      have q1 := cell_later hnx x1
      have HROK : Hid (rowOk (v.getD m default).r) := ok_row hw hml (HO.out.2 m hml)
      have KR : Hid (Calls Try.prog 38 #[.slice ra (v.getD m default).r.length rc, .slice c r.length cc] wr fun e w' => e = .returned (.int .i64 (cmpRows (v.getD m default).r r)) ∧ Below wr.heap.size wr w') := rrows_any ra c rc cc _ r wr (rowAt_below x2 hnx) (rowAt_below HR.out hnx) (wfv_at hw m hml).2.1 (by rw [HRL.out]; omega)
      have HB1 : Hid (∀ j, j < m → bytesBefore (encR (v.getD j default).r) (encR (v.getD m default).r) = true) := kv_before hw m hml (fun i hi => HO.out.2 i (by rw [HN.out]; omega))
      have HB2 : Hid (∀ j, m < j → j < v.length → bytesBefore (encR (v.getD m default).r) (encR (v.getD j default).r) = true) := fun j hj hj2 => kv_before hw j hj2 (fun i hi => HO.out.2 i (by omega)) m hj
      have HT : Hid ((v.getD m default).r = (v.getD m default).r) := rfl
      obtain ⟨t, ht⟩ : ∃ t, (v.getD m default).r = t := ⟨_, rfl⟩
      have HVT : Hid ((v.getD m default).r = t) := ht
      rw [ht] at q1 HROK KR HB1 HB2
      obtain ⟨tl, htl⟩ : ∃ z, t.length = z := ⟨_, rfl⟩
      rw [htl] at q1
      rw [htl, HRL.out] at KR
      clear x1 x2 x3 ht htl HT hm
      obtain ⟨k, hk⟩ : ∃ z, cmpRows t r = z := ⟨_, rfl⟩
      have HK : Hid (cmpRows t r = k) := hk
      rw [hk] at KR
      clear hk
      have i1 : (0 : Int) ≤ (m : Int) := by omega
      have i2 : (m : Int) < (n : Int) := by omega
      by_cases k0 : k = 0
      · subst k0
        have HE : Hid (t = r) := cmp_eq2 HROK.out HOK.out HK.out
        go_wp2_with (go_at_call 38; refine KR.out.mono ?_; rintro e wq ⟨rfl, hbq⟩)
        go_ret2
        have hte := HE.out
        exact ⟨⟨m, by omega, fun j hj => by rw [← hte]; exact HB1.out j hj, .inl ⟨hml, by rw [HVT.out, hte], fun j hj hj2 => by rw [← hte]; exact HB2.out j (by omega) hj2, rfl⟩⟩, hnx.trans (hbq.mono hnx.size)⟩
      · have k0' : (k == 0) = false := by simpa using k0
        by_cases k1 : k < 0
        · have HLT : Hid (bytesBefore (encR t) (encR r) = true) := before_of_cmp HROK.out HOK.out (by rw [HK.out]; exact k1)
          go_wp2_with (go_at_call 38; refine KR.out.mono ?_; rintro e wq ⟨rfl, hbq⟩)
          go_roundw
          case rel => exact ⟨m + 1, q, by omega, hqn, by go_num, rfl, fun j hj => by
            rcases Nat.lt_or_ge j m with h | h
            · exact before_trans (HB1.out j h) HLT.out
            · rw [show j = m by omega, HVT.out]; exact HLT.out, HUP.out, hnx.trans (hbq.mono hnx.size)⟩
          case measure => simp [intOf]; omega
        · have HGT : Hid (bytesBefore (encR r) (encR t) = true) := cmp_gt2 HROK.out HOK.out (by rw [HK.out]; omega)
          go_wp2_with (go_at_call 38; refine KR.out.mono ?_; rintro e wq ⟨rfl, hbq⟩)
          go_roundw
          case rel => exact ⟨p, m, hm1, by omega, rfl, rfl, HLO.out, fun j hj hj2 => by
            rcases Nat.lt_or_ge m j with h | h
            · exact before_trans HGT.out (HB2.out j h hj2)
            · rw [show j = m by omega, HVT.out]; exact HGT.out, hnx.trans (hbq.mono hnx.size)⟩
          case measure => simp [intOf]; omega
    · have hpe : p = q := by omega
      subst hpe
      go_wp2
      go_ret2
      exact ⟨⟨p, by rw [HN.out]; exact hqn, HLO.out, .inr ⟨HUP.out, rfl⟩⟩, hnx⟩
end Go.Proofs.Ytkjiaeolodemlae.ch
