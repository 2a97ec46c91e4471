/- Several texts in one: ChgMV, ChgPlace, ChgMore1. -/
import Derived.Test.YtbfbgdinhiglaaaGreatMgChgD
import Derived.Laws.CopyRow
import Derived.Test.YtbfbgdinhiglaaaGreatMgChgE
/- A view of one's own that is worked on in place: what it is in memory, and what a store, a cut and an append make of it. -/
namespace Go.Proofs.YtbfbgdinhiglaaaGreat.ch
open Go.ChangeShapes Go.WideShapes Go.ChangeAt Go.RowKit Go.Maps Go.WideMaps
open vl
set_option linter.unusedVariables false
set_option linter.unusedSimpArgs false

abbrev PL := List (Value × Cnt)
def flatP (L : PL) : List Value := L.flatMap fun p => [p.1, .int .i64 p.2.n]
theorem flatP_len (L : PL) : (flatP L).length = L.length * 2 := by
  induction L with
  | nil => rfl
  | cons c r ih => show ([_, _] ++ flatP r).length = _; rw [List.length_append, ih, List.length_cons]; simp; omega
theorem flatP_app (L M : PL) : flatP (L ++ M) = flatP L ++ flatP M := by unfold flatP; rw [List.flatMap_append]
theorem flatP_cons (p : Value × Cnt) (L : PL) : flatP (p :: L) = p.1 :: .int .i64 p.2.n :: flatP L := rfl
theorem flatP_take (L : PL) (i : Nat) (h : i ≤ L.length) : (flatP L).take (i * 2) = flatP (L.take i) := by
  have e : flatP L = flatP (L.take i) ++ flatP (L.drop i) := by rw [← flatP_app, List.take_append_drop]
  have hl : (flatP (L.take i)).length = i * 2 := by rw [flatP_len, List.length_take]; omega
  rw [e, ← hl, List.take_left]
theorem flatP_drop (L : PL) (i : Nat) (h : i ≤ L.length) : (flatP L).drop (i * 2) = flatP (L.drop i) := by
  have e : flatP L = flatP (L.take i) ++ flatP (L.drop i) := by rw [← flatP_app, List.take_append_drop]
  have hl : (flatP (L.take i)).length = i * 2 := by rw [flatP_len, List.length_take]; omega
  rw [e, ← hl, List.drop_left]
theorem flatP_at (L : PL) (i : Nat) (p : Value × Cnt) (h : L[i]? = some p) : (flatP L)[i * 2]? = some p.1 ∧ (flatP L)[i * 2 + 1]? = some (.int .i64 p.2.n) := by
  induction L generalizing i with
  | nil => cases h
  | cons q r ih =>
    rw [flatP_cons]
    cases i with
    | zero => cases h; exact ⟨rfl, rfl⟩
    | succ i =>
      have := ih i (by simpa using h)
      rw [show (i + 1) * 2 = i * 2 + 1 + 1 by omega]
      simpa using this
def rowOne (w : World) (v : Value) (p : Value × Cnt) : Prop := ∃ ad cap, p.1 = .slice ad p.2.r.length cap ∧ vl.rowAt w ad p.2.r ∧ ∀ g, p.1.ownBlock = some g → v.ownBlock ≠ some g ∧ g < w.heap.size
structure MV (w : World) (base : Nat) (v : Value) (L : PL) : Prop where
  low : base ≤ w.heap.size
  own : w.ownsRow base 71 2 v L.length (flatP L)
  rows : ∀ p ∈ L, rowOne w v p
def outOf (L : PL) : List Cnt := L.map (·.2)
theorem out_len (L : PL) : (outOf L).length = L.length := by simp [outOf]
theorem out_at (L : PL) (i : Nat) (p : Value × Cnt) (h : L[i]? = some p) : (outOf L).getD i default = p.2 := by
  simp [outOf, List.getD_eq_getElem?_getD, h]
theorem flatP_one {w : World} {v : Value} {L : PL} (h : ∀ p ∈ L, rowOne w v p) : ∀ u ∈ flatP L, u.oneCell' = true := by
  intro u hu
  obtain ⟨p, hp, hu⟩ := List.mem_flatMap.1 hu
  simp at hu
  rcases hu with rfl | rfl
  · obtain ⟨ad, cap, e, _⟩ := h p hp
    rw [e]; rfl
  · rfl
/-- a row stays where its block does -/
theorem rowAt_block {w w' : World} {ad : Option Addr} {r : List Cel} {cap : Nat} (h : vl.rowAt w ad r) (hb : ∀ g, (Value.slice ad r.length cap).ownBlock = some g → g < w.heap.size → w'.heap[g]? = w.heap[g]?) : vl.rowAt w' ad r := by
  intro i hi
  obtain ⟨b, o, e, x1, x2, x3⟩ := h i hi
  subst e
  have hlt : b < w.heap.size := World.block_lt_of_cell? _ _ x1
  have hbb := hb b rfl hlt
  refine ⟨b, o, rfl, ?_, ?_, ?_⟩
  · rw [World.cell?_of_block (w := w) hbb]; exact x1
  · rw [World.cell?_of_block (w := w) hbb]; exact x2
  · rw [World.cell?_of_block (w := w) hbb]; exact x3
theorem rowOne_keep {w w' : World} {v v' : Value} {p : Value × Cnt} (h : rowOne w v p) (hb : ∀ g, g < w.heap.size → v.ownBlock ≠ some g → w'.heap[g]? = w.heap[g]?) (hs : w.heap.size ≤ w'.heap.size) (hv : ∀ g, g < w.heap.size → v.ownBlock ≠ some g → v'.ownBlock ≠ some g) : rowOne w' v' p := by
  obtain ⟨ad, cap, e, hr, ha⟩ := h
  refine ⟨ad, cap, e, ?_, fun g hg => ⟨hv g (ha g hg).2 (ha g hg).1, Nat.lt_of_lt_of_le (ha g hg).2 hs⟩⟩
  exact rowAt_block (cap := cap) hr (fun g hg hlt => hb g hlt (ha g (by rw [e]; exact hg)).1)
theorem MV_below {w w' : World} {base : Nat} {v : Value} {L : PL} (h : MV w base v L) (hb : Below w.heap.size w w') : MV w' base v L :=
  ⟨Nat.le_trans h.low hb.size, own_below h.own hb, fun p hp => rowOne_keep (h.rows p hp) (fun g hg _ => hb.block g hg) hb.size (fun g _ k => k)⟩
theorem MV_len {w : World} {base : Nat} {v : Value} {L : PL} (h : MV w base v L) : ∃ ad cap, v = .slice ad L.length cap ∧ (0 < L.length → ∃ g, ad = some ⟨g, 0, none⟩) := row_form h.own
theorem MV_view {w : World} {base : Nat} {ad : Option Addr} {n cap : Nat} {L : PL} (h : MV w base (.slice ad n cap) L) : viewAt w ad (outOf L) := by
  intro i hi
  rw [out_len] at hi
  obtain ⟨ad', cap', hv, hg⟩ := MV_len h
  injection hv with ha _ _
  subst ha
  obtain ⟨g, rfl⟩ := hg (by omega)
  have hp : L[i]? = some L[i] := List.getElem?_eq_getElem hi
  obtain ⟨f1, f2⟩ := flatP_at L i _ hp
  obtain ⟨ra, rc, e, hr, _⟩ := h.rows L[i] (List.getElem_mem hi)
  have hc := World.ownsRow.cells h.own (g := g) rfl
  rw [out_at L i _ hp]
  refine ⟨g, 0, ra, rc, rfl, ?_, hr, ?_⟩
  · have := hc _ _ f1; rw [addr_add, e] at this; exact this
  · have := hc _ _ f2; rw [addr_add] at this; exact this
/-- the front of a row that is one's own -/
theorem own_front {w : World} {base : Nat} {e : TypeId} {size n cap : Nat} {ad : Option Addr} {xs : List Value} (h : w.ownsRow base e size (.slice ad n cap) n xs) (i : Nat) (hi : i ≤ n) : w.ownsRow base e size (.slice ad i cap) i (xs.take (i * size)) := by
  have hx := h.1
  have hm : i * size ≤ n * size := Nat.mul_le_mul_right _ hi
  refine ⟨by rw [List.length_take]; omega, ?_⟩
  rcases h.2 with ⟨hv, h0⟩ | ⟨g, cap', cur, hv, h1, hg, h2, h3, h4, h5⟩
  · injection hv with e1 e2 e3
    subst e1 e3
    have : i = 0 := by omega
    subst this
    exact .inl ⟨rfl, rfl⟩
  · injection hv with e1 e2 e3
    subst e1 e3
    exact .inr ⟨g, cap, cur, rfl, h1, hg, by omega, h3, h4, by rw [← h5, List.take_take, Nat.min_eq_left hm]⟩
theorem own_frozen {w : World} {base : Nat} {e : TypeId} {size n cap g : Nat} {xs : List Value} (h : w.ownsRow base e size (.slice (some ⟨g, 0, none⟩) n cap) n xs) (j : Nat) : w.frozen? ⟨g, j, none⟩ = false := by
  rcases h.2 with ⟨hv, _⟩ | ⟨g', cap', cur, hv, _, hg, _⟩
  · cases hv
  · cases hv
    simp [World.frozen?, hg]
theorem own_set {w : World} {base : Nat} {e : TypeId} {size n cap g : Nat} {xs : List Value} (h : w.ownsRow base e size (.slice (some ⟨g, 0, none⟩) n cap) n xs) (j : Nat) (hj : j < n * size) (x : Value) : (w.setCell ⟨g, j, none⟩ x).ownsRow base e size (.slice (some ⟨g, 0, none⟩) n cap) n (xs.set j x) := by
  refine ⟨by rw [List.length_set]; exact h.1, ?_⟩
  rcases h.2 with ⟨hv, _⟩ | ⟨g', cap', cur, hv, h1, hg, h2, h3, h4, h5⟩
  · cases hv
  · cases hv
    have hm : n * size ≤ cap * size := Nat.mul_le_mul_right _ h2
    refine .inr ⟨g, cap, cur.setIfInBounds j x, rfl, h1, ?_, h2, h3, by rw [Array.size_setIfInBounds]; exact h4, ?_⟩
    · rw [setCell_eq_setRow w g j cur e (0, 0) x hg]
      exact setRow_heap w g cur _ e _ hg
    · rw [Array.toList_setIfInBounds, ← h5, List.take_set]
end Go.Proofs.YtbfbgdinhiglaaaGreat.ch

/- The document's place: where a row stands in a view, or would stand. -/
namespace Go.Proofs.YtbfbgdinhiglaaaGreat.ch
open Go.ChangeShapes Go.WideShapes Go.ChangeAt Go.RowKit Go.Maps Go.WideMaps
open vl
set_option linter.unusedVariables false
set_option linter.unusedSimpArgs false

theorem cmp_gt2 {a b : List Cel} (ha : rowOk a) (hb : rowOk b) (h : 0 < cmpRows a b) : bytesBefore (encR b) (encR a) = true := by
  have h1 := cmpB_rows a b ha.2 hb.2
  have h2 := less_cmp (encR a) (encR b)
  rw [h1] at h2
  refine before_total _ _ ?_ ?_
  · cases e : bytesBefore (encR a) (encR b) with
    | false => rfl
    | true =>
      rw [before_lt] at e
      rw [less_lt, e, if_pos rfl] at h2
      omega
  · intro e
    have : Lib.compareBytes (encR a) (encR b) = 0 := cmpB_zero.2 e
    omega
theorem cmp_eq2 {a b : List Cel} (ha : rowOk a) (hb : rowOk b) (h : cmpRows a b = 0) : a = b := by
  have h1 := cmpB_rows a b ha.2 hb.2
  exact encR_inj ha.2 hb.2 (cmpB_zero.1 (by rw [h1, h]))
/-- rows before i are less, rows from i on are greater (but that at i, where it is the same) -/
def lower (v : List Cnt) (k : List UInt8) (i : Nat) : Prop := ∀ j, j < i → bytesBefore (encR (v.getD j default).r) k = true
def upper (v : List Cnt) (k : List UInt8) (i : Nat) : Prop := ∀ j, i ≤ j → j < v.length → bytesBefore k (encR (v.getD j default).r) = true
def placeRes (v : List Cnt) (r : List Cel) (e : Ending) : Prop := ∃ i : Nat, i ≤ v.length ∧ lower v (encR r) i ∧
  ((i < v.length ∧ (v.getD i default).r = r ∧ upper v (encR r) (i + 1) ∧ e = .returned (.tuple #[.int .i64 i, .bool true])) ∨ (upper v (encR r) i ∧ e = .returned (.tuple #[.int .i64 i, .bool false])))

set_option maxRecDepth 10000 in
set_option maxHeartbeats 4000000 in
theorem place_any (a c : Option Addr) (ca cc : Nat) (v : List Cnt) (r : List Cel) (w : World) (hv : viewAt w a v) (hw : wfView v) (ho : viewOk v) (hr : vl.rowAt w c r) (hok : rowOk r) :
    Calls Tryz.prog 78 #[.slice a v.length ca, .slice c r.length cc] w fun e w' => placeRes v r e ∧ Below w.heap.size w w' := by
  have HR : Hid (vl.rowAt w c r) := hr
  have HOK : Hid (rowOk r) := hok
  have HO : Hid (viewOk v) := ho
  have hr8 := hok.1
  have hn4 := ho.1
  obtain ⟨n, hn⟩ : ∃ n, v.length = n := ⟨_, rfl⟩
  have HN : Hid (v.length = n) := hn
  obtain ⟨rl, hrl⟩ : ∃ n, r.length = n := ⟨_, rfl⟩
  have HRL : Hid (r.length = rl) := hrl
  rw [hn] at hn4
  rw [hrl] at hr8
  rw [hn, hrl]
  clear hn hrl hr hok ho
  go_enter Tryz.func78, Tryz.ntmps78
  go_wp2
  go_loopw [6, 7] (fun lo hi wr => ∃ p q : Nat, p ≤ q ∧ q ≤ n ∧ lo = .int .i64 p ∧ hi = .int .i64 q ∧ lower v (encR r) p ∧ upper v (encR r) q ∧ Below w.heap.size w wr) (fun lo hi _ => (intOf hi).toNat - (intOf lo).toNat)
  case atStart => exact ⟨0, n, Nat.zero_le _, Nat.le_refl _, rfl, rfl, fun j hj => absurd hj (Nat.not_lt_zero j), fun j hj hj2 => absurd hj2 (by rw [HN.out]; omega), Below.refl _ _⟩
  case round =>
    obtain ⟨p, q, hpq, hqn, rfl, rfl, hlo, hup, hnx⟩ := hrel
    have HLO : Hid (lower v (encR r) p) := hlo
    have HUP : Hid (upper v (encR r) q) := hup
    clear hlo hup
    by_cases hlt : p < q
    · obtain ⟨m, hm⟩ : ∃ m, (p + q) / 2 = m := ⟨_, rfl⟩
      have hm1 : p ≤ m := by omega
      have hm2 : m < q := by omega
      have hws : IntKind.i64.wrap ((p : Int) + (q : Int)) = (p : Int) + (q : Int) := by rw [wrap_is]; omega
      have hdv : ((p : Int) + (q : Int)).tdiv 2 = (m : Int) := by rw [Int.tdiv_eq_ediv_of_nonneg (by omega)]; omega
      have hdv2 : ((p : Int) + (q : Int)) / 2 = (m : Int) := by omega
      have hwm : IntKind.i64.wrap (m : Int) = (m : Int) := by rw [wrap_is]; omega
      have hml : m < v.length := by rw [HN.out]; omega
      obtain ⟨b, o, ra, rc, e, x1, x2, x3⟩ := hv m hml
      subst e
      have q1 := cell_later hnx x1
      have HROK : Hid (rowOk (v.getD m default).r) := ok_row hw hml (HO.out.2 m hml)
      have KR : Hid (Calls Tryz.prog 26 #[.slice ra (v.getD m default).r.length rc, .slice c r.length cc] wr fun e w' => e = .returned (.int .i64 (cmpRows (v.getD m default).r r)) ∧ Below wr.heap.size wr w') := rrows_any ra c rc cc _ r wr (rowAt_below x2 hnx) (rowAt_below HR.out hnx) (wfv_at hw m hml).2.1 (by rw [HRL.out]; omega)
      have HB1 : Hid (∀ j, j < m → bytesBefore (encR (v.getD j default).r) (encR (v.getD m default).r) = true) := kv_before hw m hml (fun i hi => HO.out.2 i (by rw [HN.out]; omega))
      have HB2 : Hid (∀ j, m < j → j < v.length → bytesBefore (encR (v.getD m default).r) (encR (v.getD j default).r) = true) := fun j hj hj2 => kv_before hw j hj2 (fun i hi => HO.out.2 i (by omega)) m hj
      have HT : Hid ((v.getD m default).r = (v.getD m default).r) := rfl
      obtain ⟨t, ht⟩ : ∃ t, (v.getD m default).r = t := ⟨_, rfl⟩
      have HVT : Hid ((v.getD m default).r = t) := ht
      rw [ht] at q1 HROK KR HB1 HB2
      obtain ⟨tl, htl⟩ : ∃ z, t.length = z := ⟨_, rfl⟩
      rw [htl] at q1
      rw [htl, HRL.out] at KR
      clear x1 x2 x3 ht htl HT hm
      obtain ⟨k, hk⟩ : ∃ z, cmpRows t r = z := ⟨_, rfl⟩
      have HK : Hid (cmpRows t r = k) := hk
      rw [hk] at KR
      clear hk
      have i1 : (0 : Int) ≤ (m : Int) := by omega
      have i2 : (m : Int) < (n : Int) := by omega
      by_cases k0 : k = 0
      · subst k0
        have HE : Hid (t = r) := cmp_eq2 HROK.out HOK.out HK.out
        go_wp2_with (go_at_call 26; refine KR.out.mono ?_; rintro e wq ⟨rfl, hbq⟩)
        go_ret2
        have hte := HE.out
        exact ⟨⟨m, by omega, fun j hj => by rw [← hte]; exact HB1.out j hj, .inl ⟨hml, by rw [HVT.out, hte], fun j hj hj2 => by rw [← hte]; exact HB2.out j (by omega) hj2, rfl⟩⟩, hnx.trans (hbq.mono hnx.size)⟩
      · have k0' : (k == 0) = false := by simpa using k0
        by_cases k1 : k < 0
        · have HLT : Hid (bytesBefore (encR t) (encR r) = true) := before_of_cmp HROK.out HOK.out (by rw [HK.out]; exact k1)
          go_wp2_with (go_at_call 26; refine KR.out.mono ?_; rintro e wq ⟨rfl, hbq⟩)
          go_roundw
          case rel => exact ⟨m + 1, q, by omega, hqn, by go_num, rfl, fun j hj => by
            rcases Nat.lt_or_ge j m with h | h
            · exact before_trans (HB1.out j h) HLT.out
            · rw [show j = m by omega, HVT.out]; exact HLT.out, HUP.out, hnx.trans (hbq.mono hnx.size)⟩
          case measure => simp [intOf]; omega
        · have HGT : Hid (bytesBefore (encR r) (encR t) = true) := cmp_gt2 HROK.out HOK.out (by rw [HK.out]; omega)
          go_wp2_with (go_at_call 26; refine KR.out.mono ?_; rintro e wq ⟨rfl, hbq⟩)
          go_roundw
          case rel => exact ⟨p, m, hm1, by omega, rfl, rfl, HLO.out, fun j hj hj2 => by
            rcases Nat.lt_or_ge m j with h | h
            · exact before_trans HGT.out (HB2.out j h hj2)
            · rw [show j = m by omega, HVT.out]; exact HGT.out, hnx.trans (hbq.mono hnx.size)⟩
          case measure => simp [intOf]; omega
    · have hpe : p = q := by omega
      subst hpe
      go_wp2
      go_ret2
      exact ⟨⟨p, by rw [HN.out]; exact hqn, HLO.out, .inr ⟨HUP.out, rfl⟩⟩, hnx⟩
end Go.Proofs.YtbfbgdinhiglaaaGreat.ch

/- What the document's more does to a view of one's own: a number set, a row struck, a row put in between. -/
namespace Go.Proofs.YtbfbgdinhiglaaaGreat.ch
open Go.ChangeShapes Go.WideShapes Go.ChangeAt Go.RowKit Go.Maps Go.WideMaps
open vl
set_option linter.unusedVariables false
set_option linter.unusedSimpArgs false

/-! ### as counts -/
theorem ins_mid {A B : KV} {k : List UInt8} {n : Int} (hA : ∀ p ∈ A, bytesBefore p.1 k = true) (hB : ∀ p ∈ B, bytesBefore k p.1 = true) : insK (k, n) (A ++ B) = A ++ (k, n) :: B := by
  induction A with
  | nil =>
    cases B with
    | nil => rfl
    | cons q r => rw [List.nil_append, insK, if_pos (hB q (List.mem_cons_self ..))]; rfl
  | cons q r ih =>
    have hq := hA q (List.mem_cons_self ..)
    have hn : bytesBefore k q.1 = false := by
      cases e : bytesBefore k q.1 with
      | false => rfl
      | true => have := before_trans hq e; rw [before_irrefl] at this; cases this
    rw [List.cons_append, insK, hn, if_neg (by decide), ih (fun p hp => hA p (List.mem_cons_of_mem _ hp))]
    rfl
theorem ne_low {A : KV} {k : List UInt8} (h : ∀ p ∈ A, bytesBefore p.1 k = true) : ∀ p ∈ A, p.1 ≠ k := fun p hp e => by have := h p hp; rw [e, before_irrefl] at this; cases this
theorem ne_up {A : KV} {k : List UInt8} (h : ∀ p ∈ A, bytesBefore k p.1 = true) : ∀ p ∈ A, p.1 ≠ k := fun p hp e => by have := h p hp; rw [e, before_irrefl] at this; cases this
theorem del_nonek {kv : KV} {k : List UInt8} (h : ∀ p ∈ kv, p.1 ≠ k) : delK kv k = kv := by
  unfold delK
  rw [List.filter_eq_self]
  intro p hp
  simpa using h p hp
theorem del_mid {A B : KV} {k : List UInt8} {m : Int} (hA : ∀ p ∈ A, bytesBefore p.1 k = true) (hB : ∀ p ∈ B, bytesBefore k p.1 = true) : delK (A ++ (k, m) :: B) k = A ++ B := by
  have h1 := del_nonek (ne_low hA)
  have h2 := del_nonek (ne_up hB)
  unfold delK at h1 h2 ⊢
  rw [List.filter_append, h1, List.filter_cons_of_neg (by simp), h2]
theorem get_mid {A B : KV} {k : List UInt8} {m : Int} (hA : ∀ p ∈ A, bytesBefore p.1 k = true) : getK (A ++ (k, m) :: B) k = m := by
  induction A with
  | nil => rw [List.nil_append, getK_cons, if_pos rfl]
  | cons q r ih => rw [List.cons_append, getK_cons, if_neg (ne_low hA q (List.mem_cons_self ..)), ih (fun p hp => hA p (List.mem_cons_of_mem _ hp))]
theorem put_mid {A B : KV} {k : List UInt8} {m n : Int} (hA : ∀ p ∈ A, bytesBefore p.1 k = true) (hB : ∀ p ∈ B, bytesBefore k p.1 = true) : putK (A ++ (k, m) :: B) k n = A ++ (k, n) :: B := by
  unfold putK; rw [del_mid hA hB, ins_mid hA hB]
theorem put_new {A B : KV} {k : List UInt8} {n : Int} (hA : ∀ p ∈ A, bytesBefore p.1 k = true) (hB : ∀ p ∈ B, bytesBefore k p.1 = true) : putK (A ++ B) k n = A ++ (k, n) :: B := by
  unfold putK
  rw [del_nonek (fun p hp => by
    rcases List.mem_append.1 hp with h | h
    · exact ne_low hA p h
    · exact ne_up hB p h), ins_mid hA hB]
theorem get_new {A B : KV} {k : List UInt8} (hA : ∀ p ∈ A, bytesBefore p.1 k = true) (hB : ∀ p ∈ B, bytesBefore k p.1 = true) : getK (A ++ B) k = 0 := getK_none (fun p hp => by
    rcases List.mem_append.1 hp with h | h
    · exact ne_low hA p h
    · exact ne_up hB p h)

def kvP (L : PL) : KV := kvOf (outOf L)
theorem kvP_app (L M : PL) : kvP (L ++ M) = kvP L ++ kvP M := by simp [kvP, outOf, kvOf]
theorem kvP_cons (p : Value × Cnt) (L : PL) : kvP (p :: L) = (encR p.2.r, p.2.n) :: kvP L := rfl
theorem kvP_len (L : PL) : (kvP L).length = L.length := by simp [kvP, kvOf_len, out_len]
theorem low_take {L : PL} {k : List UInt8} {i : Nat} (hi : i ≤ L.length) (h : lower (outOf L) k i) : ∀ p ∈ kvP (L.take i), bytesBefore p.1 k = true := by
  intro p hp
  obtain ⟨c, hc, rfl⟩ := List.mem_map.1 hp
  obtain ⟨q, hq, rfl⟩ := List.mem_map.1 hc
  obtain ⟨j, hj, rfl⟩ := List.getElem_of_mem hq
  rw [List.length_take] at hj
  have := h j (by omega)
  rw [out_at L j _ (List.getElem?_eq_getElem (by omega))] at this
  rw [List.getElem_take]
  exact this
theorem up_drop {L : PL} {k : List UInt8} {i : Nat} (h : upper (outOf L) k i) : ∀ p ∈ kvP (L.drop i), bytesBefore k p.1 = true := by
  intro p hp
  obtain ⟨c, hc, rfl⟩ := List.mem_map.1 hp
  obtain ⟨q, hq, rfl⟩ := List.mem_map.1 hc
  obtain ⟨j, hj, rfl⟩ := List.getElem_of_mem hq
  rw [List.length_drop] at hj
  have := h (i + j) (by omega) (by rw [out_len]; omega)
  rw [out_at L (i + j) _ (List.getElem?_eq_getElem (by omega))] at this
  rw [List.getElem_drop]
  exact this
theorem split_at (L : PL) (i : Nat) (hi : i < L.length) : L = L.take i ++ L[i] :: L.drop (i + 1) := by
  rw [List.getElem_cons_drop, List.take_append_drop]

/-! ### in memory -/
theorem MV_set {w : World} {base g cap n : Nat} {A B : PL} {p : Value × Cnt} (x : Int) (h : MV w base (.slice (some ⟨g, 0, none⟩) n cap) (A ++ p :: B)) (hn : n = (A ++ p :: B).length) :
    MV (w.setCell ⟨g, A.length * 2 + 1, none⟩ (.int .i64 x)) base (.slice (some ⟨g, 0, none⟩) n cap) (A ++ (p.1, ⟨p.2.r, x⟩) :: B) := by
  have hl : (A ++ (p.1, (⟨p.2.r, x⟩ : Cnt)) :: B).length = (A ++ p :: B).length := by simp
  have ho := h.own
  subst hn
  refine ⟨by have := h.low; simpa using this, ?_, ?_⟩
  · rw [hl]
    have := own_set ho (A.length * 2 + 1) (by simp; omega) (.int .i64 x)
    have e : (flatP (A ++ p :: B)).set (A.length * 2 + 1) (.int .i64 x) = flatP (A ++ (p.1, ⟨p.2.r, x⟩) :: B) := by
      rw [flatP_app, flatP_app, flatP_cons, flatP_cons, List.set_append_right _ _ (by rw [flatP_len]; omega), flatP_len, show A.length * 2 + 1 - A.length * 2 = 1 by omega]
      rfl
    rw [e] at this
    exact this
  · have hkeep : ∀ q ∈ A ++ p :: B, rowOne (w.setCell ⟨g, A.length * 2 + 1, none⟩ (.int .i64 x)) (.slice (some ⟨g, 0, none⟩) (A ++ p :: B).length cap) q := fun q hq => rowOne_keep (h.rows q hq) (fun b _ hb => Below.heap_setCell _ _ _ b (fun e => hb (by rw [e]; rfl))) (by simp) (fun b _ k => k)
    intro q hq
    rcases List.mem_append.1 hq with h1 | h1
    · exact hkeep q (List.mem_append.2 (.inl h1))
    · rcases List.mem_cons.1 h1 with h2 | h2
      · subst h2
        exact hkeep p (List.mem_append.2 (.inr (List.mem_cons_self ..)))
      · exact hkeep q (List.mem_append.2 (.inr (List.mem_cons_of_mem _ h2)))
/-- a row struck -/
theorem MV_cut {w : World} {base g cap n : Nat} {A B : PL} {p : Value × Cnt} (h : MV w base (.slice (some ⟨g, 0, none⟩) n cap) (A ++ p :: B)) (hn : n = (A ++ p :: B).length) (hl : n ≤ 1000000) (a2 : Addr) (c2 : Nat) (ha : 0 < B.length → a2 = ⟨g, (A.length + 1) * 2, none⟩) (ty : TypeId) :
    ∃ v' w', (Builtin.append_ #[27, 27] ty #[.slice (some ⟨g, 0, none⟩) A.length cap, .slice (some a2) B.length c2]).run Tryz.prog w = .ok v' w' ∧ MV w' base v' (A ++ B) ∧ Below base w w' := by
  obtain ⟨i0, hi, hz0, hz1, hz2⟩ := info_parts infoC
  have hlow := h.low
  have ho := h.own
  subst hn
  have hAl : A.length ≤ (A ++ p :: B).length := by simp
  have hf := own_front ho A.length hAl
  rw [flatP_take _ _ hAl, List.take_left] at hf
  have hcel : ∀ j u, (flatP B)[j]? = some u → w.cell? (a2.add j) = some u := by
    intro j u hu
    have hB : 0 < B.length := by
      rcases Nat.eq_zero_or_pos B.length with h | h
      · rw [List.length_eq_zero_iff.1 h] at hu; cases hu
      · exact h
    rw [ha hB, add_at]
    have hc := World.ownsRow.cells ho (g := g) rfl ((A.length + 1) * 2 + j) u (by
      have e : flatP (A ++ p :: B) = (flatP A ++ [p.1, .int .i64 p.2.n]) ++ flatP B := by rw [flatP_app, flatP_cons, List.append_assoc]; rfl
      rw [e, List.getElem?_append_right (by rw [List.length_append, flatP_len]; simp; omega)]
      rw [List.length_append, flatP_len, show (A.length + 1) * 2 + j - (A.length * 2 + [p.1, Value.int .i64 p.2.n].length) = j by simp; omega]
      exact hu)
    rw [addr_add, Nat.zero_add] at hc
    exact hc
  have hrows : ∀ q ∈ A ++ B, q ∈ A ++ p :: B := fun q hq => by
    rcases List.mem_append.1 hq with h1 | h1
    · exact List.mem_append.2 (.inl h1)
    · exact List.mem_append.2 (.inr (List.mem_cons_of_mem _ h1))
  obtain ⟨v', w', hr, h2, h3, _, h5⟩ := run_append_own_at (P := Tryz.prog) w base 27 ty 71 i0 (.agg #[.slice none 0 0, .int .i64 0]) 2 32 Tryz.underlying27 hi hz0 hz1 hz2 rfl (by decide) _ A.length (flatP A) hf a2 B.length c2 (flatP B) (by rw [flatP_len]) hcel
    (flatP_one (fun q hq => h.rows q (hrows q (List.mem_append.2 (.inr hq))))) (by unfold maxLen; simp at hl; omega) (by simp at hl; omega) hlow
  refine ⟨v', w', hr, ⟨Nat.le_trans hlow h3.size, by rw [List.length_append, flatP_app]; exact h2, ?_⟩, (Below.refl _ _).grown h3 hlow (fun b hb => (own_lt hf hb).1)⟩
  intro q hq
  refine rowOne_keep (h.rows q (hrows q hq)) (fun b hb hne => h3.block b hb (fun e => hne e.symm)) h3.size ?_
  intro b hb hne e
  rcases h5 with h5 | h5
  · rw [h5] at e
    exact hne e
  · rw [h5] at e
    have hbb : w.heap.size = b := by cases e; rfl
    omega

theorem run_copy2 {w : World} (ty : TypeId) (g o dLen dCap : Nat) (a : Addr) (sLen sCap : Nat) (cur : Array Value) (t : TypeId) (cs : List Value) (hg : w.heap[g]? = some (.cells cur t (0, 0))) (hn : cs.length = Nat.min sLen dLen * 2)
    (hsrc : ∀ j v, cs[j]? = some v → w.cell? (a.add j) = some v) (hfit : o + cs.length ≤ cur.size) (h1 : ∀ v ∈ cs, v.oneCell' = true) :
    (Builtin.copy_ #[27, 27] ty #[.slice (some ⟨g, o, none⟩) dLen dCap, .slice (some a) sLen sCap]).run Tryz.prog w = .ok (goInt (Nat.min sLen dLen)) (w.setRow g (cur.toList.take o ++ cs ++ cur.toList.drop (o + cs.length)).toArray) := by
  obtain ⟨i0, hi, hz0, hz1, hz2⟩ := info_parts infoC
  have hl := run_loadCells_list (P := Tryz.prog) w a cs hsrc
  have hst := run_storeCells_at Tryz.prog g o t cs 0 cur w hg (by simpa using hfit) h1
  simp [Builtin.copy_, run_underlying Tryz.underlying27, Builtin.lenOf, Builtin.firstCells, sizeOf, typeInfo, hi, hz1, ← hn, hl, hst]
theorem run_copy2_none {w : World} (ty : TypeId) (d : Option Addr) (dLen dCap : Nat) (a : Option Addr) (sLen sCap : Nat) (hn : Nat.min sLen dLen = 0) :
    (Builtin.copy_ #[27, 27] ty #[.slice d dLen dCap, .slice a sLen sCap]).run Tryz.prog w = .ok (goInt 0) w := by
  obtain ⟨i0, hi, hz0, hz1, hz2⟩ := info_parts infoC
  have hl : ∀ x, (loadCells x 0).run Tryz.prog w = .ok #[] w := fun x => run_loadCells_list (P := Tryz.prog) w x [] (fun j v h => by cases h)
  cases a <;> cases d <;> simp [Builtin.copy_, run_underlying Tryz.underlying27, Builtin.lenOf, Builtin.firstCells, sizeOf, typeInfo, hi, hz1, hn, hl, storeCells]

theorem copy_list (fA fB z S : List Value) (hz : z.length = 2) : ((fA ++ (fB ++ z) ++ S).take (fA.length + 2) ++ fB ++ (fA ++ (fB ++ z) ++ S).drop (fA.length + 2 + fB.length)) = (fA ++ (fB ++ z).take 2 ++ fB) ++ S := by
  have h1 : (fA ++ (fB ++ z) ++ S).take (fA.length + 2) = fA ++ (fB ++ z).take 2 := by
    rw [List.append_assoc, List.take_length_add_append, List.take_append_of_le_length (by rw [List.length_append]; omega)]
  have h2 : (fA ++ (fB ++ z) ++ S).drop (fA.length + 2 + fB.length) = S := by
    rw [show fA.length + 2 + fB.length = (fA ++ (fB ++ z)).length by rw [List.length_append, List.length_append]; omega]
    exact List.drop_left
  rw [h1, h2]
/-- room for a row in between: behind an append of nothing much and a copy -/
theorem MV_room {w w2 : World} {base g cap n : Nat} {v : Value} {A B : PL} {z : List Value} (h : MV w base v (A ++ B)) (hn : (A ++ B).length = n) (o : Obj) (hz : z.length = 2)
    (hown2 : w2.ownsRow base 71 2 (.slice (some ⟨g, 0, none⟩) (n + 1) cap) (n + 1) (flatP (A ++ B) ++ z)) (hg2 : (w.alloc o).grownBy w2 v.ownBlock) (hat : v.ownBlock = some g ∨ g = w.heap.size + 1)
    (d2 s2 : Option Addr) (dc sc : Nat) (hd : 0 < B.length → d2 = some ⟨g, (A.length + 1) * 2, none⟩) (hs : 0 < B.length → s2 = some ⟨g, A.length * 2, none⟩) (ty : TypeId) :
    ∃ w3, (Builtin.copy_ #[27, 27] ty #[.slice d2 B.length dc, .slice s2 (B.length + 1) sc]).run Tryz.prog w2 = .ok (goInt B.length) w3 ∧
      (∃ y, y.length = 2 ∧ w3.ownsRow base 71 2 (.slice (some ⟨g, 0, none⟩) (n + 1) cap) (n + 1) (flatP A ++ y ++ flatP B)) ∧
      Below base w w3 ∧ (∀ p ∈ A ++ B, rowOne w3 (.slice (some ⟨g, 0, none⟩) (n + 1) cap) p) := by
  have hlow := h.low
  have hs2 : w.heap.size + 1 ≤ w2.heap.size := by have := hg2.size; simpa using this
  have hglt := own_lt hown2 (g := g) rfl
  have hnl : A.length + B.length = n := by rw [← hn, List.length_append]
  have hb2 : Below base w w2 := ((Below.refl _ _).alloc hlow o).grown hg2 (by simp; omega) (fun b hb => (own_lt h.own hb).1)
  have hblk2 : ∀ b, b < w.heap.size → v.ownBlock ≠ some b → w2.heap[b]? = w.heap[b]? := fun b hb ho => by
    rw [hg2.block b (by simp; omega) (fun e => ho e.symm)]
    exact Below.heap_alloc _ _ b hb
  have hvg : ∀ b, b < w.heap.size → v.ownBlock ≠ some b → (Value.slice (some ⟨g, 0, none⟩) (n + 1) cap).ownBlock ≠ some b := fun b hb hne e => by
    have hbg : g = b := by cases e; rfl
    rcases hat with h1 | h1
    · exact hne (by rw [← hbg]; exact h1)
    · omega
  have hmin : Nat.min (B.length + 1) B.length = B.length := Nat.min_eq_right (by omega)
  have hyl : ((flatP B ++ z).take 2).length = 2 := by rw [List.length_take, List.length_append, hz]; omega
  have hlA := flatP_len A
  have hlB := flatP_len B
  by_cases hB : 0 < B.length
  · have ed := hd hB
    have es := hs hB
    subst ed es
    rcases hown2.2 with ⟨hv, _⟩ | ⟨g', cap', cur, hv, h1, hg, h2, h3, h4, h5⟩
    · cases hv
    · injection hv with e1 e2 e3
      injection e1 with e1
      injection e1 with e1 _ _
      subst e1 e3
      have hcs : ∀ j u, (flatP B)[j]? = some u → w2.cell? ((⟨g, A.length * 2, none⟩ : Addr).add j) = some u := fun j u hu => by
        rw [add_at]
        have hc := World.ownsRow.cells hown2 (g := g) rfl (A.length * 2 + j) u (by
          have hj : j < (flatP B).length := by
            rcases Nat.lt_or_ge j (flatP B).length with h | h
            · exact h
            · rw [List.getElem?_eq_none h] at hu; cases hu
          rw [flatP_app, List.append_assoc, List.getElem?_append_right (by rw [flatP_len]; omega), flatP_len, show A.length * 2 + j - A.length * 2 = j by omega, List.getElem?_append_left hj]
          exact hu)
        rw [addr_add, Nat.zero_add] at hc
        exact hc
      have hone := flatP_one (L := B) (fun p hp => h.rows p (List.mem_append.2 (.inr hp)))
      have hfit : (A.length + 1) * 2 + (flatP B).length ≤ cur.size := by
        have : (n + 1) * 2 ≤ cap * 2 := Nat.mul_le_mul_right _ h2
        omega
      have hrun := run_copy2 ty g ((A.length + 1) * 2) B.length dc ⟨g, A.length * 2, none⟩ (B.length + 1) sc cur 71 (flatP B) hg (by rw [hmin, flatP_len]) hcs hfit hone
      rw [hmin] at hrun
      obtain ⟨S, hS⟩ : ∃ S, cur.toList = flatP A ++ (flatP B ++ z) ++ S := ⟨cur.toList.drop ((n + 1) * 2), by
        have e := List.take_append_drop ((n + 1) * 2) cur.toList
        rw [h5, flatP_app, List.append_assoc (flatP A) (flatP B) z] at e
        exact e.symm⟩
      have hnew : cur.toList.take ((A.length + 1) * 2) ++ flatP B ++ cur.toList.drop ((A.length + 1) * 2 + (flatP B).length) = (flatP A ++ (flatP B ++ z).take 2 ++ flatP B) ++ S := by
        have := copy_list (flatP A) (flatP B) z S hz
        rw [hS, show (A.length + 1) * 2 = (flatP A).length + 2 by omega]
        exact this
      rw [hnew] at hrun
      have hsz : cur.size = ((flatP A ++ (flatP B ++ z).take 2 ++ flatP B) ++ S).length := by
        rw [← Array.length_toList, hS]
        simp only [List.length_append, hyl, hz]
        omega
      refine ⟨_, hrun, ⟨(flatP B ++ z).take 2, hyl, ?_, .inr ⟨g, cap, _, rfl, h1, setRow_heap w2 g cur _ _ _ hg, h2, h3, ?_, ?_⟩⟩, ?_, ?_⟩
      · simp only [List.length_append, hyl]; omega
      · rw [List.size_toArray, ← hsz]; exact h4
      · rw [show (n + 1) * 2 = (flatP A ++ (flatP B ++ z).take 2 ++ flatP B).length by simp only [List.length_append, hyl]; omega]
        exact List.take_left
      · exact hb2.trans ⟨rfl, rfl, rfl, by simp [World.setRow], fun k hk => setRow_other w2 g k _ (by omega)⟩
      · intro p hp
        have hss : (w2.setRow g ((flatP A ++ (flatP B ++ z).take 2 ++ flatP B) ++ S).toArray).heap.size = w2.heap.size := by simp [World.setRow]
        refine rowOne_keep (h.rows p hp) (fun b hb hne => ?_) (by omega) hvg
        rw [setRow_other w2 g b _ (fun e => hvg b hb hne (by rw [e]; rfl))]
        exact hblk2 b hb hne
  · have hB0 : B = [] := List.length_eq_zero_iff.1 (by omega)
    subst hB0
    have hrun := run_copy2_none (w := w2) ty d2 0 dc s2 1 sc rfl
    refine ⟨w2, hrun, ⟨z, hz, by rw [List.append_nil] at hown2; rw [show flatP ([] : PL) = [] from rfl, List.append_nil]; exact hown2⟩, hb2, ?_⟩
    intro p hp
    exact rowOne_keep (h.rows p hp) hblk2 (by omega) hvg
end Go.Proofs.YtbfbgdinhiglaaaGreat.ch
