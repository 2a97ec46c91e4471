import Derived.Test.YtdohnkkbkfhphaaGreatPe4
import Derived.Test.YtdohnkkbkfhphaaGreatPe3
namespace Go.Proofs.YtdohnkkbkfhphaaGreat.bf
open Go.ChangeShapes Go.WideShapes Go.ChangeAt Go.RowKit
open vl
set_option linter.unusedVariables false
set_option linter.unusedSimpArgs false
structure Ent where
 key : ByteArray
 time : Int
 seq : Int
 row : List Cel
 met : Bool
deriving DecidableEq
instance : Inhabited Ent := ⟨⟨⟨#[]⟩, 0, 0, [], false⟩⟩
structure ER (w : World) (e : EM) (x : Ent) : Prop where
 key : e.key = x.key
 time : e.time = x.time
 seq : e.seq = x.seq
 met : e.met = x.met
 len : e.row.2.1 = x.row.length
 row : vl.rowAt w e.row.1 x.row
theorem ER.below {w w' : World} {e : EM} {x : Ent} (h : ER w e x) (hb : Below w.heap.size w w') : ER w' e x := ⟨h.key, h.time, h.seq, h.met, h.len, vl.rowAt_below h.row hb⟩
def ERs (w : World) (es : List EM) (l : List Ent) : Prop := es.length = l.length ∧ ∀ i, i < l.length → ER w (es.getD i default) (l.getD i default)
theorem ERs.below {w w' : World} {es : List EM} {l : List Ent} (h : ERs w es l) (hb : Below w.heap.size w w') : ERs w' es l := ⟨h.1, fun i hi => (h.2 i hi).below hb⟩
theorem ERs_nil (w : World) : ERs w [] [] := ⟨rfl, fun i hi => absurd hi (Nat.not_lt_zero i)⟩
theorem getD_app_left {α : Type} {l m : List α} {d : α} {i : Nat} (h : i < l.length) : (l ++ m).getD i d = l.getD i d := by
 simp [List.getD_eq_getElem?_getD, List.getElem?_append_left h]
theorem getD_app_right {α : Type} {l m : List α} {d : α} {i : Nat} (h : l.length ≤ i) : (l ++ m).getD i d = m.getD (i - l.length) d := by
 simp [List.getD_eq_getElem?_getD, List.getElem?_append_right h]
theorem ERs_app {w : World} {es es' : List EM} {l l' : List Ent} (h : ERs w es l) (h' : ERs w es' l') : ERs w (es ++ es') (l ++ l') := by
 refine ⟨by rw [List.length_append, List.length_append, h.1, h'.1], fun i hi => ?_⟩
 rw [List.length_append] at hi
 by_cases hl : i < l.length
 ·rw [getD_app_left (by rw [h.1]; exact hl), getD_app_left hl]; exact h.2 i hl
 ·rw [getD_app_right (by rw [h.1]; omega), getD_app_right (by omega), h.1]; exact h'.2 _ (by omega)
def bl (b : ByteArray) : List UInt8 := b.data.toList
theorem bl_inj {a b : ByteArray} (h : bl a = bl b) : a = b := ByteArray.ext (Array.ext' h)
def ltP (a b : Ent) : Prop := bl a.key < bl b.key ∨ (a.key = b.key ∧ (a.time < b.time ∨ (a.time = b.time ∧ a.seq < b.seq)))
instance (a b : Ent) : Decidable (ltP a b) := by unfold ltP; exact inferInstance
def sameP (a b : Ent) : Prop := a.key = b.key ∧ a.time = b.time ∧ a.seq = b.seq
instance (a b : Ent) : Decidable (sameP a b) := by unfold sameP; exact inferInstance
def cmpP (a b : Ent) : Int := if ltP a b then -1 else if sameP a b then 0 else 1
theorem less_lt : ∀ (a b : List UInt8), Op.bytesLess a b = decide (a < b)
 | [], [] => by simp [Op.bytesLess]
 | _ :: _, [] => by simp [Op.bytesLess]
 | [], _ :: _ => by simp [Op.bytesLess]
 | a :: x, b :: y => by
  rw [Op.bytesLess, less_lt x y]
  simp only [List.cons_lt_cons_iff]
  by_cases h1 : a < b <;> by_cases h2 : a = b <;> by_cases h3 : x < y <;> simp [h1, h2, h3]
theorem cmpB_is (a b : List UInt8) : Lib.compareBytes a b = if a < b then -1 else if a = b then 0 else 1 := by
 rw [less_cmp, less_lt]
 by_cases h1 : a < b <;> by_cases h2 : a = b <;> simp [h1, h2]
theorem lt_irrefl' (a : List UInt8) : ¬ a < a := List.lt_irrefl a
theorem lt_trans' {a b c : List UInt8} (h1 : a < b) (h2 : b < c) : a < c := List.lt_trans h1 h2
theorem lt_tri (a b : List UInt8) : a < b ∨ a = b ∨ b < a := by
 by_cases h1 : a < b
 ·exact .inl h1
 ·by_cases h2 : b < a
  ·exact .inr (.inr h2)
  ·exact .inr (.inl (List.le_antisymm (List.not_lt.1 h2) (List.not_lt.1 h1)))
theorem ltP_irrefl (a : Ent) : ¬ ltP a a := by
 unfold ltP
 rintro (h | ⟨_, h | ⟨_, h⟩⟩)
 ·exact lt_irrefl' _ h
 ·omega
 ·omega
theorem ltP_trans {a b c : Ent} (h1 : ltP a b) (h2 : ltP b c) : ltP a c := by
 unfold ltP at *
 rcases h1 with h1 | ⟨e1, h1⟩
 ·rcases h2 with h2 | ⟨e2, h2⟩
  ·exact .inl (lt_trans' h1 h2)
  ·rw [← e2]; exact .inl h1
 ·rcases h2 with h2 | ⟨e2, h2⟩
  ·rw [e1]; exact .inl h2
  ·exact .inr ⟨e1.trans e2, by omega⟩
theorem ltP_tri (a b : Ent) : ltP a b ∨ sameP a b ∨ ltP b a := by
 unfold ltP sameP
 rcases lt_tri (bl a.key) (bl b.key) with h | h | h
 ·exact .inl (.inl h)
 ·have e := bl_inj h
  by_cases h1 : a.time < b.time
  ·exact .inl (.inr ⟨e, .inl h1⟩)
  ·by_cases h2 : b.time < a.time
   ·exact .inr (.inr (.inr ⟨e.symm, .inl h2⟩))
   ·have e2 : a.time = b.time := by omega
    by_cases h3 : a.seq < b.seq
    ·exact .inl (.inr ⟨e, .inr ⟨e2, h3⟩⟩)
    ·by_cases h4 : b.seq < a.seq
     ·exact .inr (.inr (.inr ⟨e.symm, .inr ⟨e2.symm, h4⟩⟩))
     ·exact .inr (.inl ⟨e, e2, by omega⟩)
 ·exact .inr (.inr (.inl h))
theorem sameP_symm {a b : Ent} (h : sameP a b) : sameP b a := ⟨h.1.symm, h.2.1.symm, h.2.2.symm⟩
theorem ltP_same {a b c : Ent} (h : ltP a b) (k : sameP b c) : ltP a c := by
 unfold ltP at *; rw [← k.1, ← k.2.1, ← k.2.2]; exact h
theorem same_ltP {a b c : Ent} (h : sameP a b) (k : ltP b c) : ltP a c := by
 unfold ltP at *; rw [h.1, h.2.1, h.2.2]; exact k
theorem cmpP_neg {a b : Ent} : cmpP a b < 0 ↔ ltP a b := by
 unfold cmpP
 by_cases h : ltP a b
 ·simp [h]
 ·by_cases h2 : sameP a b <;> simp [h, h2]
theorem cmpP_first (a b : Ent) : firstNZ [Lib.compareBytes (bl a.key) (bl b.key), ordI a.time b.time, ordI a.seq b.seq] = cmpP a b := by
 have e1 := cmpB_is (bl a.key) (bl b.key)
 rw [e1]
 unfold firstNZ firstNZ firstNZ firstNZ ordI cmpP
 unfold ltP sameP
 rcases lt_tri (bl a.key) (bl b.key) with h | h | h
 ·simp [h]
 ·have e := bl_inj h
  simp only [h, lt_irrefl', if_false, if_true, e, false_or, true_and]
  by_cases h1 : a.time < b.time
  ·simp [h1]
  ·by_cases h2 : b.time < a.time
   ·have h3 : ¬ a.time = b.time := by omega
    simp [h1, h2, h3]
   ·have e2 : a.time = b.time := by omega
    simp only [e2, Int.lt_irrefl, if_false, false_or, true_and]
    by_cases h3 : a.seq < b.seq
    ·simp [h3]
    ·by_cases h4 : b.seq < a.seq
     ·have h5 : ¬ a.seq = b.seq := by omega
      simp [h3, h4, h5]
     ·have e3 : a.seq = b.seq := by omega
      simp [e3]
 ·have h1 : ¬ bl a.key < bl b.key := fun k => lt_irrefl' _ (lt_trans' k h)
  have h2 : ¬ bl a.key = bl b.key := fun k => by rw [k] at h; exact lt_irrefl' _ h
  have h3 : ¬ a.key = b.key := fun k => h2 (by rw [k])
  simp [h1, h2, h3]
def betw (n a b : Int) : Bool := decide (a ≤ n ∧ n ≤ b)
theorem betw_iff (n a b : Int) : betw n a b = true ↔ (a ≤ n ∧ n ≤ b) := by simp [betw]
theorem betw_no (n a b : Int) : betw n a b = false ↔ ¬ (a ≤ n ∧ n ≤ b) := by unfold betw; exact decide_eq_false_iff_not
theorem limitRight_any (n : Int) (w : World) :
 Calls Tryz.prog 65 #[.int .i64 n] w fun e w' => e = .returned (.bool (betw n 1 64)) ∧ w' = w := by
 by_cases h1 : 1 ≤ n
 ·by_cases h2 : n ≤ 64
  ·rw [(betw_iff n 1 64).2 ⟨h1, h2⟩]
   go_enter Tryz.func65, Tryz.ntmps65
   go_wp2
   go_ret
   exact ⟨rfl, rfl⟩
  ·rw [(betw_no n 1 64).2 (by omega)]
   go_enter Tryz.func65, Tryz.ntmps65
   go_wp2
   go_ret
   exact ⟨rfl, rfl⟩
 ·rw [(betw_no n 1 64).2 (by omega)]
  go_enter Tryz.func65, Tryz.ntmps65
  go_wp2
  go_ret
  exact ⟨rfl, rfl⟩
set_option maxHeartbeats 400000 in
theorem or_any (b : Nat) (zs : List Int) (w : World) (hl : zs.length ≤ 100)
 (hc : ∀ i, i < zs.length → w.cell? ⟨b, i, none⟩ = some (.int .i64 (zs[i]?.getD 0))) :
 Calls Tryz.prog 164 #[.slice (some ⟨b, 0, none⟩) zs.length zs.length] w fun e w' => e = .returned (.int .i64 (firstNZ zs)) ∧ w' = w := by
 go_enter Tryz.func164, Tryz.ntmps164
 go_wp2
 go_loop [8] (fun i => ∃ k : Nat, k ≤ zs.length ∧ i = .int .i64 k ∧ ∀ i, i < k → zs[i]?.getD 0 = 0) (fun i => zs.length - (intOf i).toNat)
 case atStart => exact ⟨0, Nat.zero_le _, rfl, fun i hi => absurd hi (Nat.not_lt_zero i)⟩
 case round =>
  obtain ⟨k, hk, rfl, hall⟩ := hrel
  have HA : Hid (∀ i, i < k → zs[i]?.getD 0 = 0) := hall
  clear hall
  by_cases hlt : k < zs.length
  ·have hcell := hc k hlt
   obtain ⟨z, hz0⟩ : ∃ z, zs[k]?.getD 0 = z := ⟨_, rfl⟩
   rw [hz0] at hcell
   have HZ : Hid (zs[k]?.getD 0 = z) := hz0
   clear hc hz0
   by_cases hf : (z == 0) = true
   ·have hf2 : z = 0 := by simpa using hf
    have HF : Hid (z = 0) := hf2
    clear hf2
    go_wp2
    go_round
    case rel => exact ⟨k + 1, by omega, by go_num, fun i hi => by
     rcases Nat.lt_succ_iff_lt_or_eq.1 hi with h | h
     ·exact HA.out i h
     ·rw [h, HZ.out]; exact HF.out⟩
    case measure => simp [intOf]; omega
   ·have hf' : (z == 0) = false := by simpa using hf
    have hne : Hid (firstNZ zs = z) := by
     show firstNZ zs = z
     rw [firstNZ_at zs k HA.out hlt (by rw [HZ.out]; simpa using hf)]; exact HZ.out
    go_wp2
    go_ret
    exact ⟨ret_int (by rw [hne.out]), rfl⟩
  ·have hz : Hid (firstNZ zs = 0) := by
    show firstNZ zs = 0
    rw [firstNZ_zero zs k HA.out, List.drop_of_length_le (by omega)]; rfl
   go_wp2
   go_ret
   exact ⟨ret_int (by rw [hz.out]), rfl⟩
theorem or3 (b : Nat) (x y z : Int) (w : World) (h0 : w.cell? ⟨b, 0, none⟩ = some (.int .i64 x)) (h1 : w.cell? ⟨b, 1, none⟩ = some (.int .i64 y)) (h2 : w.cell? ⟨b, 2, none⟩ = some (.int .i64 z)) :
 Calls Tryz.prog 164 #[.slice (some ⟨b, 0, none⟩) 3 3] w fun e w' => e = .returned (.int .i64 (firstNZ [x, y, z])) ∧ w' = w :=
 or_any b [x, y, z] w (by simp) (fun i hi => by
  match i, hi with
  | 0, _ => exact h0
  | 1, _ => exact h1
  | 2, _ => exact h2)
def EM.ent (e : EM) : Ent := ⟨e.key, e.time, e.seq, [], e.met⟩
theorem cmpP_ent {w : World} {e f : EM} {x y : Ent} (h : ER w e x) (k : ER w f y) : cmpP e.ent f.ent = cmpP x y := by
 unfold cmpP ltP sameP EM.ent
 simp only [h.key, h.time, h.seq, k.key, k.time, k.seq]
attribute [local go_sem ↓] Go.wp_at_zero Go.wp_at_succ
set_option maxRecDepth 100000 in
set_option maxHeartbeats 4000000 in
theorem byPlace_any (e f : EM) (w : World) :
 Calls Tryz.prog 116 #[e.val, f.val] w fun r w' => r = .returned (.int .i64 (cmpP e.ent f.ent)) ∧ Below w.heap.size w w' := by
 have HC : Hid (firstNZ [Lib.compareBytes e.key.data.toList f.key.data.toList, ordI e.time f.time, ordI e.seq f.seq] = cmpP e.ent f.ent) := cmpP_first e.ent f.ent
 obtain ⟨k1, t1, s1, ⟨a1, b1, c1⟩, m1⟩ := e
 obtain ⟨k2, t2, s2, ⟨a2, b2, c2⟩, m2⟩ := f
 rw [← HC.out]
 clear HC
 unfold EM.val hdV
 dsimp only
 go_enter Tryz.func116, Tryz.ntmps116
 go_wp2
 go_region_held3 (fun w' => w'.cell? ⟨w.heap.size, 0, none⟩ = some (.string k1) ∧ w'.cell? ⟨w.heap.size, 1, none⟩ = some (.int .i64 t1) ∧ w'.cell? ⟨w.heap.size, 2, none⟩ = some (.int .i64 s1) ∧ w'.cell? ⟨w.heap.size + 1, 0, none⟩ = some (.string k2) ∧ w'.cell? ⟨w.heap.size + 1, 1, none⟩ = some (.int .i64 t2) ∧ w'.cell? ⟨w.heap.size + 1, 2, none⟩ = some (.int .i64 s2)) (go_keep)
  (first
   | (go_at_call 166; refine (cmpInt_any _ _ _).mono ?_; rintro e w' ⟨rfl, rfl⟩)
   | (go_at_call 165; refine (strCmp_any _ _ _).mono ?_; rintro e w' ⟨rfl, rfl⟩)
   | (go_at_call 164; refine (or3 _ (Lib.compareBytes k1.data.toList k2.data.toList) (ordI t1 t2) (ordI s1 s2) _ ?_ ?_ ?_).mono ?_; (go_simp); (go_simp); (go_simp); rintro e w' ⟨rfl, rfl⟩))
 all_goals
  go_wp2
  go_ret
  refine ⟨rfl, ?_⟩
  repeat (first | exact bR | apply Below.drew | (refine Below.alloc ?_ (by simp <;> omega) _))
theorem placeOf_any (e : EM) (w : World) :
 Calls Tryz.prog 186 #[e.val] w fun r w' => r = .returned (.agg #[.string e.key, .int .i64 e.time, .int .i64 e.seq]) ∧ Below w.heap.size w w' := by
 obtain ⟨k1, t1, s1, ⟨a1, b1, c1⟩, m1⟩ := e
 unfold EM.val hdV
 dsimp only
 go_enter Tryz.func186, Tryz.ntmps186
 go_wp2
 refine bodyPost_ret (v := .agg #[.string k1, .int .i64 t1, .int .i64 s1]) (by simp [results, Tryz.results186, go_sem]) rfl ⟨rfl, ?_⟩
 repeat (first | exact bR | apply Below.drew | (refine Below.setCell ?_ (by simp) _) | (refine Below.alloc ?_ (by simp <;> omega) _))
def isKey (k : ByteArray) : Prop := ∃ r, rowOk r ∧ encR r = k.data.toList
structure wfE (x : Ent) : Prop where
 key : x.key.size ≤ maxLen
 row : wfRow x.row
 len : x.row.length ≤ 9223372036854775807
def fineE (x : Ent) : Prop := isKey x.key ∧ keyErr x.row = 0 ∧ tm.fitB x.time = true ∧ 0 ≤ x.seq ∧ x.seq ≤ 1099511627776
noncomputable def fineB (x : Ent) : Bool := @decide (fineE x) (Classical.propDecidable _)
theorem fineB_yes {x : Ent} (h : fineE x) : fineB x = true := by unfold fineB; exact @decide_eq_true _ (Classical.propDecidable _) h
theorem fineB_no {x : Ent} (h : ¬ fineE x) : fineB x = false := by unfold fineB; exact @decide_eq_false _ (Classical.propDecidable _) h
theorem fineB_iff {x : Ent} : fineB x = true ↔ fineE x := by
 by_cases h : fineE x
 ·simp [fineB_yes h, h]
 ·simp [fineB_no h, h]
theorem no_key {k : ByteArray} (h : ¬ isKey k) : noKey k.data.toList := fun r hr e => h ⟨r, hr, e⟩
set_option maxHeartbeats 4000000 in
theorem entryRight_any (e : EM) (x : Ent) (w : World) (h : ER w e x) (hw : wfE x) :
 Calls Tryz.prog 183 #[e.val] w fun r w' => r = .returned (.bool (fineB x)) ∧ Below w.heap.size w w' := by
 obtain ⟨k1, t1, s1, ⟨a1, b1, c1⟩, m1⟩ := e
 obtain ⟨h1, h2, h3, h4, h5, h6⟩ := h
 obtain ⟨xk, xt, xs, xr, xm⟩ := x
 obtain ⟨w1, w2, w3⟩ := hw
 dsimp only at h1 h2 h3 h4 h5 h6 w1 w2 w3
 subst h1 h2 h3 h4 h5
 obtain ⟨R, hR⟩ : ∃ z, fineB ⟨k1, t1, s1, xr, m1⟩ = z := ⟨_, rfl⟩
 have HRt : Hid (fineE ⟨k1, t1, s1, xr, m1⟩ → true = R) := fun h => by rw [← hR, fineB_yes h]
 have HRf : Hid (¬ fineE ⟨k1, t1, s1, xr, m1⟩ → false = R) := fun h => by rw [← hR, fineB_no h]
 have KK := hIz (fun (w1 : World) (hb : Below w.heap.size w w1) => key_any a1 c1 xr w1 (vl.rowAt_below h6 hb) w2 w3)
 rw [hR]
 obtain ⟨ke, hke⟩ : ∃ z, keyErr xr = z := ⟨_, rfl⟩
 obtain ⟨ks, hks⟩ : ∃ z, keyS xr = z := ⟨_, rfl⟩
 rw [hke, hks] at KK
 have HKE : Hid (keyErr xr = ke) := hke
 obtain ⟨n, hn⟩ : ∃ z, xr.length = z := ⟨_, rfl⟩
 rw [hn] at KK
 unfold EM.val hdV
 dsimp only
 rw [hn]
 clear hR hke hks hn h6 w2 w3
 have hb0 : Below w.heap.size w (w.alloc (.cells #[.string k1, .int .i64 t1, .int .i64 s1, .slice a1 n c1, .bool m1] 63)) := bR.alloc nR _
 by_cases hk : isKey k1
 ·obtain ⟨r0, hr0, hk0⟩ := hk
  have KB : Hid (∀ w1, Calls Tryz.prog 179 #[.string k1] w1 fun e w' => (∃ ad cap, e = .returned (.tuple #[.slice ad r0.length cap, .int .i64 0])) ∧ Below w1.heap.size w1 w') := fun w1' => (back_yes k1 r0 w1' w1 hr0 hk0).mono (fun e w' ⟨⟨ad, cap, he, _⟩, hb⟩ => ⟨⟨ad, cap, he⟩, hb⟩)
  have HK : Hid (isKey k1) := ⟨r0, hr0, hk0⟩
  obtain ⟨rl, hrl⟩ : ∃ z, r0.length = z := ⟨_, rfl⟩
  rw [hrl] at KB
  clear hk0 hr0 hrl
  go_enter Tryz.func183, Tryz.ntmps183
  go_wp2_with fail
  refine (KB.out _).mono ?_
  rintro e wa ⟨⟨ad, cap, rfl⟩, hb1⟩
  have c0 : wa.cell? ⟨w.heap.size, 0, none⟩ = some (.string k1) := by rw [hb1.cell (p := ⟨w.heap.size, 0, none⟩) (by simp)]; go_simp
  have c1' : wa.cell? ⟨w.heap.size, 1, none⟩ = some (.int .i64 t1) := by rw [hb1.cell (p := ⟨w.heap.size, 1, none⟩) (by simp)]; go_simp
  have c2 : wa.cell? ⟨w.heap.size, 2, none⟩ = some (.int .i64 s1) := by rw [hb1.cell (p := ⟨w.heap.size, 2, none⟩) (by simp)]; go_simp
  have c3 : wa.cell? ⟨w.heap.size, 3, none⟩ = some (.slice a1 n c1) := by rw [hb1.cell (p := ⟨w.heap.size, 3, none⟩) (by simp)]; go_simp
  have hbw := hb0.trans (hb1.mono hb0.size)
  clear hb1
  go_wp2_with fail
  refine (KK.out _ hbw).mono ?_
  rintro e wb ⟨rfl, hb2⟩
  have d1 := cLz hb2 c1'
  have d2 := cLz hb2 c2
  have hbx := hbw.trans (hb2.mono hbw.size)
  clear hb2 c0 c1' c2 c3
  by_cases h0 : ke = 0
  ·subst h0
   have KF := hIz (fun (w1 : World) => tm.fits_any t1 w1)
   cases hf : tm.fitB t1 with
   | false =>
    have HE : Hid (false = R) := HRf.out (fun h => by have := h.2.2.1; rw [hf] at this; cases this)
    rw [hf] at KF
    go_wp2_with (go_at_call 88; refine (KF.out _).mono ?_; rintro e w' ⟨rfl, hww⟩; subst hww)
    go_ret
    exact ⟨ret_bool HE.out, hbx⟩
   | true =>
    rw [hf] at KF
    by_cases s0 : 0 ≤ s1
    ·by_cases s2 : s1 ≤ 1099511627776
     ·have HE : Hid (true = R) := HRt.out ⟨HK.out, HKE.out, hf, s0, s2⟩
      go_wp2_with (go_at_call 88; refine (KF.out _).mono ?_; rintro e w' ⟨rfl, hww⟩; subst hww)
      go_ret
      exact ⟨ret_bool HE.out, hbx⟩
     ·have HE : Hid (false = R) := HRf.out (fun h => s2 h.2.2.2.2)
      go_wp2_with (go_at_call 88; refine (KF.out _).mono ?_; rintro e w' ⟨rfl, hww⟩; subst hww)
      go_ret
      exact ⟨ret_bool (by rw [← HE.out]; exact decide_eq_false (by omega)), hbx⟩
    ·have HE : Hid (false = R) := HRf.out (fun h => s0 h.2.2.2.1)
     go_wp2_with (go_at_call 88; refine (KF.out _).mono ?_; rintro e w' ⟨rfl, hww⟩; subst hww)
     go_ret
     exact ⟨ret_bool HE.out, hbx⟩
  ·have hb' : (ke == 0) = false := by simpa using h0
   have HE : Hid (false = R) := HRf.out (fun h => h0 (by rw [← HKE.out]; exact h.2.1))
   go_wp2
   go_ret
   exact ⟨ret_bool HE.out, hbx⟩
 ·have KB : Hid (∀ w1, Calls Tryz.prog 179 #[.string k1] w1 fun e w' => e = .returned (.tuple #[.slice none 0 0, .int .i64 1]) ∧ Below w1.heap.size w1 w') := fun w1' => back_no k1 w1' w1 (no_key hk)
  have HE : Hid (false = R) := HRf.out (fun h => hk h.1)
  clear hk
  go_enter Tryz.func183, Tryz.ntmps183
  go_wp2_with fail
  refine (KB.out _).mono ?_
  rintro e wa ⟨rfl, hb1⟩
  have c3 : wa.cell? ⟨w.heap.size, 3, none⟩ = some (.slice a1 n c1) := by rw [hb1.cell (p := ⟨w.heap.size, 3, none⟩) (by simp)]; go_simp
  have hbw := hb0.trans (hb1.mono hb0.size)
  clear hb1
  go_wp2_with fail
  refine (KK.out _ hbw).mono ?_
  rintro e wb ⟨rfl, hb2⟩
  have hbx := hbw.trans (hb2.mono hbw.size)
  go_wp2
  go_ret
  exact ⟨ret_bool HE.out, hbx⟩
end Go.Proofs.YtdohnkkbkfhphaaGreat.bf
namespace Go.Proofs.YtdohnkkbkfhphaaGreat.bf
open Go.ChangeShapes Go.WideShapes Go.ChangeAt Go.RowKit Go.Shelf
open vl
set_option linter.unusedVariables false
set_option linter.unusedSimpArgs false
attribute [local go_sem] Oper.semAt_some
structure Buf where
 lim : Int
 mem : List Ent
 runs : List (List Ent)
structure BX where
 ra : Option Addr
 rc : Nat
 m : Part
 rs : List Part
def bufV (b : Buf) (x : BX) : Value := .agg #[.int .i64 b.lim, hdV x.m.1, .slice x.ra x.rs.length x.rc]
structure bufAt (w : World) (b : Buf) (x : BX) : Prop where
 hds : hdsAt w x.ra (x.rs.map (·.1))
 len : ∀ p ∈ x.m :: x.rs, p.1.2.1 = p.2.length ∧ p.2.length ≤ 9223372036854775807
 ems : ∀ p ∈ x.m :: x.rs, emsAt w p.1.1 p.2
 few : x.rs.length ≤ 9223372036854775807
 mem : ERs w x.m.2 b.mem
 rlen : x.rs.length = b.runs.length
 runs : ∀ i, i < b.runs.length → ERs w (x.rs.getD i default).2 (b.runs.getD i default)
theorem hdsAt_below {w w' : World} {a : Option Addr} {l : List Hdr} (h : hdsAt w a l) (hb : Below w.heap.size w w') : hdsAt w' a l := fun i hi => by
 obtain ⟨b, o, e, x⟩ := h i hi
 exact ⟨b, o, e, cLz hb x⟩
theorem bufAt_below {w w' : World} {b : Buf} {x : BX} (h : bufAt w b x) (hb : Below w.heap.size w w') : bufAt w' b x :=
 ⟨hdsAt_below h.hds hb, h.len, fun p hp => emsAt_below (h.ems p hp) hb, h.few, h.mem.below hb, h.rlen, fun i hi => (h.runs i hi).below hb⟩
def partsB (b : Buf) : List (List Ent) := b.mem :: b.runs
def entsB (b : Buf) : List Ent := (partsB b).flatten
theorem ERs_flat {w : World} : ∀ {p : List Part} {l : List (List Ent)}, p.length = l.length → (∀ i, i < l.length → ERs w (p.getD i default).2 (l.getD i default)) → ERs w (ems p) l.flatten
 | [], [], _, _ => ERs_nil w
 | [], _ :: _, h, _ => by cases h
 | _ :: _, [], h, _ => by cases h
 | p :: ps, x :: xs, h, k => by
  have h1 := k 0 (by simp)
  have h2 := ERs_flat (p := ps) (l := xs) (by simpa using h) (fun i hi => by have := k (i + 1) (by simpa using hi); simpa using this)
  exact ERs_app (by simpa using h1) h2
theorem bufAt_ents {w : World} {b : Buf} {x : BX} (h : bufAt w b x) : ERs w (ems (x.m :: x.rs)) (entsB b) :=
 ERs_flat (by simp [partsB, h.rlen]) (fun i hi => by
  cases i with
  | zero => exact h.mem
  | succ i =>
   have hi' : i < b.runs.length := by simpa [partsB] using hi
   simpa [partsB] using h.runs i hi')
theorem box_at {w : World} {B : Nat} {b : Buf} {x : BX} (h : bufAt w b x) (h0 : w.cell? ⟨B, 0, none⟩ = some (.int .i64 b.lim)) (h1 : w.cell? ⟨B, 1, none⟩ = some (hdV x.m.1)) (h2 : w.cell? ⟨B, 2, none⟩ = some (.slice x.ra x.rs.length x.rc)) : boxAt w B b.lim x.ra x.rc x.m x.rs :=
 ⟨h0, h1, h2, h.hds, h.len, h.ems, h.few⟩
theorem own_low {n B : Nat} {w W W' : World} {row : Option Nat} (h : Below n w W) (hn : n ≤ w.heap.size) (hB : n ≤ B) (hg : W.grownBy W' row) (hr : ∀ r, row = some r → B ≤ r ∧ ∃ x : Obj, W.heap[r]? = some x ∧ x.isCells = false) : Below n w W' :=
 h.grown hg (Nat.le_trans hn h.size) (fun r e => Nat.le_trans hB (hr r e).1)
theorem put_low {n D : Nat} {w W : World} {o : Obj} (h : Below n w W) (hn : n ≤ D) (hD : W.heap[D]? = some o) (o' : Obj) : Below n w (W.putObj D o') :=
 h.trans ⟨rfl, rfl, rfl, by simp, fun k hk => World.putObj_heap_other (by omega)⟩
def allBut (B : Nat) : Nat → Obj → Prop := fun b _ => b ≠ B
theorem names_but {B b : Nat} {W : World} (h : b ≠ B) : names (allBut B) W b := fun _ _ => h
theorem but_set {B : Nat} (W : World) (o : Nat) (v : Value) : KeepO (allBut B) W (W.setCell ⟨B, o, none⟩ v) := fun b x h1 _ h3 => (heap_setCell_other W ⟨B, o, none⟩ b v h3).trans h1
theorem iter_parts {w V : World} {b : Buf} {x : BX} (h : bufAt w b x) (hb : Below w.heap.size w V) (BP : Nat) (Pr : Nat → Obj → Prop) (h1 : V.cell? ⟨BP, 1, none⟩ = some (hdV x.m.1)) (h2 : V.cell? ⟨BP, 2, none⟩ = some (.slice x.ra x.rs.length x.rc)) (hS : names Pr V BP) (hS2 : ∀ a, 0 < x.rs.length → x.ra = some a → names Pr V a.block) :
 Iter Tryz.prog 180 #[.pointer (some ⟨BP, 0, none⟩)] ((x.m :: x.rs).map fun p => #[hdV p.1]) (KeepO Pr) V := by
 have hl : (x.rs.map (·.1)).length = x.rs.length := List.length_map ..
 have := parts_iter BP 0 x.m.1 x.ra x.rc (x.rs.map (·.1)) Pr V (by rw [hl]; exact h.few) h1 (by rw [hl]; exact h2) (hdsAt_below h.hds hb) hS (fun a h0 ha => hS2 a (by rw [hl] at h0; exact h0) ha)
 rw [show ((x.m :: x.rs).map fun p => #[hdV p.1]) = ((x.m.1 :: x.rs.map (·.1)).map fun h => #[hdV h]) by simp]
 exact this
theorem ra_lt {w : World} {b : Buf} {x : BX} (h : bufAt w b x) {a : Addr} (h0 : 0 < x.rs.length) (ha : x.ra = some a) : a.block < w.heap.size := by
 obtain ⟨b', o, e, y⟩ := h.hds 0 (by simpa using h0)
 rw [ha] at e; cases e
 exact World.block_lt_of_cell? _ _ y
theorem offs_le (p : List Part) (i : Nat) : offs p i ≤ (ems p).length := by
 have h : ems p = ems (p.take i) ++ ems (p.drop i) := by rw [← ems_app, List.take_append_drop]
 unfold offs
 rw [h, List.length_append]; omega
set_option maxHeartbeats 4000000 in
theorem size_any (b : Buf) (x : BX) (w : World) (h : bufAt w b x) (hs : (entsB b).length ≤ 4611686018427387904) :
 Calls Tryz.prog 135 #[bufV b x] w fun e w' => e = .returned (.int .i64 (entsB b).length) ∧ Below w.heap.size w w' := by
 have HB : Hid (bufAt w b x) := h
 obtain ⟨N, hN⟩ : ∃ z, (entsB b).length = z := ⟨_, rfl⟩
 have HEN : Hid (offs (x.m :: x.rs) (x.m :: x.rs).length = N) := by show _ = _; rw [offs_end, (bufAt_ents h).1, hN]
 rw [hN] at hs ⊢
 clear hN h
 obtain ⟨ra, rc, ⟨⟨m1, m2, m3⟩, ml⟩, rs⟩ := x
 obtain ⟨lim, mem, runs⟩ := b
 unfold bufV hdV
 dsimp only at HEN ⊢
 obtain ⟨n, hn⟩ : ∃ n, rs.length = n := ⟨_, rfl⟩
 have HN : Hid (rs.length = n) := hn
 rw [hn]
 clear hn
 refine (callsIn_wide (n := 0)).1 ?_
 refine callsIn_of_wp_marks Tryz.func135 rfl trivial ?_ rfl
 simp only [Tryz.ntmps135, List.size_toArray, List.length_cons, List.length_nil, Nat.reduceAdd, Nat.reduceSub, Array.replicate_succ, Array.replicate_zero, List.push_toArray, List.append_toArray, List.nil_append, List.cons_append]
 gi_wp2_with (refine ⟨trivial, rfl, ?_⟩; gi_at_call 136; refine (callsIn_wide.2 (parts_any _ _ _ rfl rfl rfl _)).mono ?_; rintro e w' ⟨rfl, rfl⟩)
 have V0 : ((((w.alloc (.cells #[.int .i64 lim, .slice m1 m2 m3, .slice ra n rc] 29)).alloc (.cells #[.int .i64 0] 3)).alloc (.cells #[.int .i64 lim, .slice m1 m2 m3, .slice ra n rc] 29))).cell? ⟨w.heap.size + 1, 0, none⟩ = some (.int .i64 0) := by go_simp
 have V1 : ((((w.alloc (.cells #[.int .i64 lim, .slice m1 m2 m3, .slice ra n rc] 29)).alloc (.cells #[.int .i64 0] 3)).alloc (.cells #[.int .i64 lim, .slice m1 m2 m3, .slice ra n rc] 29))).frozen? ⟨w.heap.size + 1, 0, none⟩ = false := by go_simp
 have V2 : ((((w.alloc (.cells #[.int .i64 lim, .slice m1 m2 m3, .slice ra n rc] 29)).alloc (.cells #[.int .i64 0] 3)).alloc (.cells #[.int .i64 lim, .slice m1 m2 m3, .slice ra n rc] 29))).cell? ⟨w.heap.size + 1 + 1, 1, none⟩ = some (.slice m1 m2 m3) := by go_simp
 have V3 : ((((w.alloc (.cells #[.int .i64 lim, .slice m1 m2 m3, .slice ra n rc] 29)).alloc (.cells #[.int .i64 0] 3)).alloc (.cells #[.int .i64 lim, .slice m1 m2 m3, .slice ra n rc] 29))).cell? ⟨w.heap.size + 1 + 1, 2, none⟩ = some (.slice ra n rc) := by go_simp
 have V4 : Below w.heap.size w ((((w.alloc (.cells #[.int .i64 lim, .slice m1 m2 m3, .slice ra n rc] 29)).alloc (.cells #[.int .i64 0] 3)).alloc (.cells #[.int .i64 lim, .slice m1 m2 m3, .slice ra n rc] 29))) := by
  repeat (first | exact bR | (refine Below.alloc ?_ (by simp <;> omega) _))
 have V5 : ((((w.alloc (.cells #[.int .i64 lim, .slice m1 m2 m3, .slice ra n rc] 29)).alloc (.cells #[.int .i64 0] 3)).alloc (.cells #[.int .i64 lim, .slice m1 m2 m3, .slice ra n rc] 29))).heap.size = w.heap.size + 1 + 1 + 1 := by simp
 generalize ((((w.alloc (.cells #[.int .i64 lim, .slice m1 m2 m3, .slice ra n rc] 29)).alloc (.cells #[.int .i64 0] 3)).alloc (.cells #[.int .i64 lim, .slice m1 m2 m3, .slice ra n rc] 29))) = V at *
 have hit := iter_parts HB.out V4 (w.heap.size + 1 + 1) (allBut (w.heap.size + 1)) V2 (by rw [HN.out]; exact V3) (names_but (by omega)) (fun a h0 ha => names_but (by have := ra_lt HB.out h0 ha; omega))
 obtain ⟨P, hP⟩ : ∃ z : List Part, (((m1, m2, m3), ml) :: rs) = z := ⟨_, rfl⟩
 dsimp only at hit
 rw [hP] at hit HEN
 have HPM : Hid (∀ p ∈ P, p.1.2.1 = p.2.length ∧ p.2.length ≤ 9223372036854775807) := fun p hp => HB.out.len p (by rw [← hP] at hp; exact hp)
 clear hP
 refine range_law (gf := 180) (lb := #[.pointer (some ⟨w.heap.size + 1 + 1, 0, none⟩)]) rfl (enters_of Tryz.func180 (by kernel_rfl) rfl) hit bR (fun x hx => by obtain ⟨p, _, rfl⟩ := List.mem_map.1 hx; rfl) (fun h k => KeepO.trans h k) (fun W l o o' _ h ho => KeepO.put W l o o' h ho)
  (fun i X => X.cell? ⟨w.heap.size + 1, 0, none⟩ = some (.int .i64 (offs P i)) ∧ X.frozen? ⟨w.heap.size + 1, 0, none⟩ = false ∧ Below w.heap.size w X) (fun c X => False)
  (fun i X X' row hs hg hr => ⟨cell_kept hs.1 hg (fun r e => (hr r e).2), (frozen_kept hs.1 hg (fun r e => (hr r e).2)).trans hs.2.1, own_low hs.2.2 nR (by omega) hg hr⟩)
  (fun c X X' row hs hg hr => hs)
  ⟨V0, V1, V4⟩
  (fun i a' X => a' = { tmps := #[.agg #[.int .i64 lim, .slice m1 m2 m3, .slice ra n rc], .pointer (some ⟨w.heap.size, 0, none⟩), .int .i64 0, .pointer (some ⟨w.heap.size + 1, 0, none⟩), hdV (P.getD i default).1, .agg #[.int .i64 lim, .slice m1 m2 m3, .slice ra n rc], .func (.func 180) #[] #[.pointer (some ⟨w.heap.size + 1 + 1, 0, none⟩)], hdV (P.getD i default).1, undef, undef, undef, undef, undef], defers := [] })
  (fun i a' u X X' row hs hg hr => hs) ?assign ?body ?done ?stop
 case assign =>
  intro l' k x X K hx hi hK
  obtain ⟨hk, hxe⟩ := List.getElem?_eq_some_iff.1 hx
  rw [List.length_map] at hk
  rw [List.getElem_map] at hxe
  subst hxe
  have hd : P.getD k default = P[k] := by rw [List.getD_eq_getElem?_getD, List.getElem?_eq_getElem hk]; rfl
  have hK2 := fun W' h1 h2 h3 => hK _ W' h1 h2 h3 rfl
  rw [hd] at hK2
  clear hK hd hx
  obtain ⟨⟨⟨z1, z2, z3⟩, zl⟩, hz⟩ : ∃ z, P[k] = z := ⟨_, rfl⟩
  rw [hz] at hK2 ⊢
  unfold hdV at hK2 ⊢
  dsimp only at hK2 ⊢
  gi_wp2
  exact hK2 X (KeepsFrom.refl _ _) (KeepO.refl _ _) hi
 case body =>
  intro l' i x a' X hx hl' hrec hIi hax
  obtain ⟨i1, i2, i3⟩ := hIi
  obtain ⟨hi, hxe⟩ := List.getElem?_eq_some_iff.1 hx
  rw [List.length_map] at hi
  have hd : P.getD i default = P[i] := by rw [List.getD_eq_getElem?_getD, List.getElem?_eq_getElem hi]; rfl
  rw [hd] at hax
  subst hax
  have hpm := HPM.out P[i] (List.getElem_mem hi)
  have hnx : offs P (i + 1) = offs P i + (P[i]).2.length := offs_succ hi
  have hle : offs P (i + 1) ≤ N := by have := offs_le P (i + 1); rw [offs_end] at HEN; have h2 := HEN.out; omega
  clear hx hxe hd
  obtain ⟨⟨⟨z1, z2, z3⟩, zl⟩, hz⟩ : ∃ z, P[i] = z := ⟨_, rfl⟩
  rw [hz] at hpm hnx ⊢
  dsimp only at hpm hnx ⊢
  obtain ⟨hz2, hzl⟩ := hpm
  subst hz2
  obtain ⟨q, hq⟩ : ∃ q, zl.length = q := ⟨_, rfl⟩
  rw [hq] at hnx hzl
  unfold hdV
  dsimp only
  rw [hq]
  obtain ⟨O, hO⟩ : ∃ O, offs P i = O := ⟨_, rfl⟩
  obtain ⟨O2, hO2⟩ : ∃ O, offs P (i + 1) = O := ⟨_, rfl⟩
  rw [hO] at i1 hnx
  rw [hO2] at hnx hle
  have HO2 : Hid (offs P (i + 1) = O2 ∧ O2 = O + q) := ⟨hO2, hnx⟩
  clear hO hO2 hq
  have hwr : IntKind.i64.wrap ((O : Int) + (q : Int)) = (O : Int) + (q : Int) := by rw [IntKind.wrap_i64]; omega
  gi_wp2
  refine ⟨(KeepsOthers.setCell _ _ _).from _, but_set _ _ _, ?_, by simpa using i2, i3.setCell (by simp) _⟩
  rw [HO2.out.1, HO2.out.2]
  have := World.cell?_setCell_same X ⟨w.heap.size + 1, 0, none⟩ (.int .i64 ((O : Int) + (q : Int))) i1
  rw [Int.natCast_add]; exact this
 case done =>
  rintro D X hD ⟨i1, i2, i3⟩ hK
  rw [List.length_map, HEN.out] at i1
  gi_wp2
  refine ⟨by simp, .inl ⟨_, _, rfl, run_takeDeferred hK, ?_⟩⟩
  exact ⟨_, results_tmp rfl _ _ _, rfl, put_low i3 (by omega) hK _⟩
 case stop =>
  rintro D c X hD h hK
  exact h.elim
end Go.Proofs.YtdohnkkbkfhphaaGreat.bf
