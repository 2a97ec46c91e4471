/- What becomes of a slot: the functions that Write, Sync and Crash hand to turned. -/
import Derived.Test.YtdjlnloalpfmoaaDskTurn
namespace Go.Proofs.Ytdjlnloalpfmoaa.dk
open Go.ChangeShapes Go.WideShapes Go.ChangeAt Go.RowKit
set_option linter.unusedVariables false
set_option linter.unusedSimpArgs false
def noT : ByteArray := ⟨#[]⟩
def wrF (s : Int) (t : ByteArray) (i : Int) (c : Slt) : Slt := if i = s then ⟨c.safe, t, true⟩ else c
def syF (s : Int) (i : Int) (c : Slt) : Slt := if i = s ∧ c.has = true then ⟨c.wait, ⟨#[]⟩, false⟩ else c
/-- a slice that begins at a has these numbers -/
def intsAt (w : World) (a : Option Addr) (l : List Int) : Prop :=
  ∀ i, i < l.length → ∃ b off, a = some ⟨b, off, none⟩ ∧ w.cell? ⟨b, off + i, none⟩ = some (.int .i64 (l.getD i 0))
theorem intsAt_below {w w' : World} {a : Option Addr} {l : List Int} (h : intsAt w a l) (hb : Below w.heap.size w w') : intsAt w' a l := by
  intro i hi
  obtain ⟨b, o, e, x⟩ := h i hi
  exact ⟨b, o, e, cell_later hb x⟩
theorem ret_agg3 {a b c d : ByteArray} {e f : Bool} (h : (⟨a, b, e⟩ : Slt) = ⟨c, d, f⟩) : Ending.returned (.agg #[.string a, .string b, .bool e]) = .returned (.agg #[.string c, .string d, .bool f]) := by cases h; rfl
set_option maxHeartbeats 1000000 in
theorem write1_any (i s : Int) (t : ByteArray) (c : Slt) (BS BT : Nat) (w : World) (hs : w.cell? ⟨BS, 0, none⟩ = some (.int .i64 s)) (ht : w.cell? ⟨BT, 0, none⟩ = some (.string t)) :
    Calls Try.prog 23 #[.int .i64 i, c.val, .pointer (some ⟨BS, 0, none⟩), .pointer (some ⟨BT, 0, none⟩)] w fun e w' => e = .returned (wrF s t i c).val ∧ Below w.heap.size w w' := by
  have h1 : BS < w.heap.size := World.block_lt_of_cell? _ _ hs
  have h2 : BT < w.heap.size := World.block_lt_of_cell? _ _ ht
  obtain ⟨sa, wa, ha⟩ := c
  obtain ⟨⟨sb, wb, hb⟩, hf⟩ : ∃ z, wrF s t i ⟨sa, wa, ha⟩ = z := ⟨_, rfl⟩
  have HF : Hid (wrF s t i ⟨sa, wa, ha⟩ = ⟨sb, wb, hb⟩) := hf
  rw [hf]
  clear hf
  unfold Slt.val
  dsimp only
  by_cases he : i = s
  · subst he
    have HE : Hid ((⟨sa, t, true⟩ : Slt) = ⟨sb, wb, hb⟩) := by
      show _ = _
      rw [← HF.out]; unfold wrF; rw [if_pos rfl]
    go_enter Try.func23, Try.ntmps23
    go_wp2
    refine bodyPost_ret (v := .agg #[.string sa, .string t, .bool true]) (by simp [results, Try.results23, go_sem]) rfl ⟨ret_agg3 HE.out, ?_⟩
    repeat (first | exact Below.refl _ _ | apply Below.drew | (refine Below.setCell ?_ (by simp) _) | (refine Below.alloc ?_ (by simp <;> omega) _))
  · have hb' : (i == s) = false := by simpa using he
    have HE : Hid ((⟨sa, wa, ha⟩ : Slt) = ⟨sb, wb, hb⟩) := by
      show _ = _
      rw [← HF.out]; unfold wrF; rw [if_neg he]
    go_enter Try.func23, Try.ntmps23
    go_wp2
    refine bodyPost_ret (v := .agg #[.string sa, .string wa, .bool ha]) (by simp [results, Try.results23, go_sem]) rfl ⟨ret_agg3 HE.out, ?_⟩
    repeat (first | exact Below.refl _ _ | apply Below.drew | (refine Below.setCell ?_ (by simp) _) | (refine Below.alloc ?_ (by simp <;> omega) _))
set_option maxHeartbeats 1000000 in
theorem sync1_any (i s : Int) (c : Slt) (BS : Nat) (w : World) (hs : w.cell? ⟨BS, 0, none⟩ = some (.int .i64 s)) :
    Calls Try.prog 24 #[.int .i64 i, c.val, .pointer (some ⟨BS, 0, none⟩)] w fun e w' => e = .returned (syF s i c).val ∧ Below w.heap.size w w' := by
  have h1 : BS < w.heap.size := World.block_lt_of_cell? _ _ hs
  obtain ⟨sa, wa, ha⟩ := c
  obtain ⟨⟨sb, wb, hb⟩, hf⟩ : ∃ z, syF s i ⟨sa, wa, ha⟩ = z := ⟨_, rfl⟩
  have HF : Hid (syF s i ⟨sa, wa, ha⟩ = ⟨sb, wb, hb⟩) := hf
  rw [hf]
  clear hf
  unfold Slt.val
  dsimp only
  by_cases he : i = s
  · subst he
    cases ha with
    | true =>
      have HE : Hid ((⟨wa, ⟨#[]⟩, false⟩ : Slt) = ⟨sb, wb, hb⟩) := by
        show _ = _
        rw [← HF.out]; unfold syF; rw [if_pos ⟨rfl, rfl⟩]
      go_enter Try.func24, Try.ntmps24
      go_wp2
      refine bodyPost_ret (v := .agg #[.string wa, .string ⟨#[]⟩, .bool false]) (by simp [results, Try.results24, go_sem]) rfl ⟨ret_agg3 HE.out, ?_⟩
      repeat (first | exact Below.refl _ _ | apply Below.drew | (refine Below.setCell ?_ (by simp) _) | (refine Below.alloc ?_ (by simp <;> omega) _))
    | false =>
      have HE : Hid ((⟨sa, wa, false⟩ : Slt) = ⟨sb, wb, hb⟩) := by
        show _ = _
        rw [← HF.out]; unfold syF; rw [if_neg (by simp)]
      go_enter Try.func24, Try.ntmps24
      go_wp2
      refine bodyPost_ret (v := .agg #[.string sa, .string wa, .bool false]) (by simp [results, Try.results24, go_sem]) rfl ⟨ret_agg3 HE.out, ?_⟩
      repeat (first | exact Below.refl _ _ | apply Below.drew | (refine Below.setCell ?_ (by simp) _) | (refine Below.alloc ?_ (by simp <;> omega) _))
  · have hb' : (i == s) = false := by simpa using he
    have HE : Hid ((⟨sa, wa, ha⟩ : Slt) = ⟨sb, wb, hb⟩) := by
      show _ = _
      rw [← HF.out]; unfold syF; rw [if_neg (by simp [he])]
    go_enter Try.func24, Try.ntmps24
    go_wp2
    refine bodyPost_ret (v := .agg #[.string sa, .string wa, .bool ha]) (by simp [results, Try.results24, go_sem]) rfl ⟨ret_agg3 HE.out, ?_⟩
    repeat (first | exact Below.refl _ _ | apply Below.drew | (refine Below.setCell ?_ (by simp) _) | (refine Below.alloc ?_ (by simp <;> omega) _))
def cutAt (l : List Int) (i : Nat) : Int := if i < l.length then l.getD i 0 else 0
theorem cutOf_any (a : Option Addr) (cap : Nat) (l : List Int) (i : Nat) (w : World) (hl : l.length ≤ 9223372036854775807) (ha : intsAt w a l) :
    Calls Try.prog 31 #[.slice a l.length cap, .int .i64 i] w fun e w' => e = .returned (.int .i64 (cutAt l i)) ∧ w' = w := by
  obtain ⟨n, hn⟩ : ∃ n, l.length = n := ⟨_, rfl⟩
  have HN : Hid (l.length = n) := hn
  have HC : Hid (cutAt l i = if i < n then l.getD i 0 else 0) := by show _ = _; unfold cutAt; rw [hn]
  obtain ⟨z, hz⟩ : ∃ z, cutAt l i = z := ⟨_, rfl⟩
  rw [hz] at HC
  rw [hn] at hl
  rw [hz, hn]
  clear hn hz
  by_cases hlt : i < n
  · obtain ⟨b, o, e, x1⟩ := ha i (by rw [HN.out]; exact hlt)
    subst e
    have i1 : (0 : Int) ≤ (i : Int) := by omega
    have i2 : (i : Int) < (n : Int) := by omega
    have HC2 : Hid (l.getD i 0 = z) := by show _ = _; have h := HC.out; rw [if_pos hlt] at h; exact h.symm
    clear ha
    go_enter Try.func31, Try.ntmps31
    go_wp2
    go_ret
    exact ⟨ret_int HC2.out, rfl⟩
  · have i2 : ¬ (i : Int) < (n : Int) := by omega
    have HC2 : Hid (0 = z) := by show _ = _; have h := HC.out; rw [if_neg hlt] at h; exact h.symm
    clear ha
    go_enter Try.func31, Try.ntmps31
    go_wp2
    go_ret
    exact ⟨ret_int HC2.out, rfl⟩
theorem ret_str {a b : ByteArray} (h : a = b) : Ending.returned (.string a) = .returned (.string b) := by rw [h]
def keptT (c : Slt) (cut : Int) : ByteArray := if cut < 0 then c.safe else c.wait.extract 0 (min cut c.wait.size).toNat
set_option maxHeartbeats 1000000 in
theorem kept_any (c : Slt) (cut : Int) (w : World) (hl : c.wait.size ≤ maxLen) :
    Calls Try.prog 30 #[c.val, .int .i64 cut] w fun e w' => e = .returned (.string (keptT c cut)) ∧ Below w.heap.size w w' := by
  obtain ⟨sa, wa, ha⟩ := c
  obtain ⟨K, hK⟩ : ∃ z, keptT ⟨sa, wa, ha⟩ cut = z := ⟨_, rfl⟩
  have HK : Hid (K = if cut < 0 then sa else wa.extract 0 (min cut wa.size).toNat) := by show _ = _; rw [← hK]; rfl
  rw [hK]
  clear hK
  unfold Slt.val
  dsimp only at hl ⊢
  unfold maxLen at hl
  by_cases h0 : cut < 0
  · have HK2 : Hid (sa = K) := by show _ = _; have h := HK.out; rw [if_pos h0] at h; exact h.symm
    go_enter Try.func30, Try.ntmps30
    go_wp2
    go_ret
    exact ⟨ret_str HK2.out, (Below.refl _ _).alloc (Nat.le_refl _) _⟩
  · have HK2 : Hid (wa.extract 0 (min cut wa.size).toNat = K) := by show _ = _; have h := HK.out; rw [if_neg h0] at h; exact h.symm
    go_enter Try.func30, Try.ntmps30
    go_wp2
    go_ret
    exact ⟨ret_str HK2.out, (Below.refl _ _).alloc (Nat.le_refl _) _⟩
theorem set3_at {w : World} {B : Nat} {x y z a b c : Value} (e0 : w.cell? ⟨B, 0, none⟩ = some a) (e1 : w.cell? ⟨B, 1, none⟩ = some b) (e2 : w.cell? ⟨B, 2, none⟩ = some c) :
    (((w.setCell ⟨B, 0, none⟩ x).setCell ⟨B, 1, none⟩ y).setCell ⟨B, 2, none⟩ z).cell? ⟨B, 0, none⟩ = some x ∧ (((w.setCell ⟨B, 0, none⟩ x).setCell ⟨B, 1, none⟩ y).setCell ⟨B, 2, none⟩ z).cell? ⟨B, 1, none⟩ = some y ∧ (((w.setCell ⟨B, 0, none⟩ x).setCell ⟨B, 1, none⟩ y).setCell ⟨B, 2, none⟩ z).cell? ⟨B, 2, none⟩ = some z := by
  refine ⟨?_, ?_, ?_⟩
  · rw [World.cell?_setCell_other _ _ _ _ (fun e => by injection e; omega), World.cell?_setCell_other _ _ _ _ (fun e => by injection e; omega)]
    exact World.cell?_setCell_same _ _ _ e0
  · rw [World.cell?_setCell_other _ _ _ _ (fun e => by injection e; omega)]
    exact World.cell?_setCell_same (u := b) _ _ _ (by rw [World.cell?_setCell_other _ _ _ _ (fun e => by injection e; omega)]; exact e1)
  · exact World.cell?_setCell_same (u := c) _ _ _ (by rw [World.cell?_setCell_other _ _ _ _ (fun e => by injection e; omega), World.cell?_setCell_other _ _ _ _ (fun e => by injection e; omega)]; exact e2)
def crF (l : List Int) (i : Nat) (c : Slt) : Slt := if c.has = true then ⟨keptT c (cutAt l i), ⟨#[]⟩, false⟩ else c
set_option maxRecDepth 10000 in
set_option maxHeartbeats 2000000 in
theorem crash1_any (i : Nat) (c : Slt) (a : Option Addr) (cap : Nat) (l : List Int) (BC : Nat) (w : World) (hw : c.wait.size ≤ maxLen) (hl : l.length ≤ 9223372036854775807) (ha : intsAt w a l) (hc : w.cell? ⟨BC, 0, none⟩ = some (.slice a l.length cap)) :
    Calls Try.prog 29 #[.int .i64 i, c.val, .pointer (some ⟨BC, 0, none⟩)] w fun e w' => e = .returned (crF l i c).val ∧ Below w.heap.size w w' := by
  have h1 : BC < w.heap.size := World.block_lt_of_cell? _ _ hc
  have K1 : Hid (∀ w1, Below w.heap.size w w1 → Calls Try.prog 31 #[.slice a l.length cap, .int .i64 i] w1 fun e w' => e = .returned (.int .i64 (cutAt l i)) ∧ w' = w1) := fun w1 hb => cutOf_any a cap l i w1 hl (intsAt_below ha hb)
  have K2 : Hid (∀ w1, Calls Try.prog 30 #[c.val, .int .i64 (cutAt l i)] w1 fun e w' => e = .returned (.string (keptT c (cutAt l i))) ∧ Below w1.heap.size w1 w') := fun w1 => kept_any c _ w1 hw
  obtain ⟨⟨sb, wb, hb⟩, hf⟩ : ∃ z, crF l i c = z := ⟨_, rfl⟩
  have HF : Hid (crF l i c = ⟨sb, wb, hb⟩) := hf
  obtain ⟨C, hC⟩ : ∃ z, cutAt l i = z := ⟨_, rfl⟩
  have HF2 : Hid ((⟨sb, wb, hb⟩ : Slt) = if c.has = true then ⟨keptT c C, ⟨#[]⟩, false⟩ else c) := by show _ = _; rw [← hf, ← hC]; rfl
  rw [hC] at K1 K2
  rw [hf]
  clear hf hC HF ha
  obtain ⟨n, hn⟩ : ∃ n, l.length = n := ⟨_, rfl⟩
  rw [hn] at K1 hc hl
  clear hn
  obtain ⟨sa, wa, ba⟩ := c
  obtain ⟨K, hK⟩ : ∃ z, keptT ⟨sa, wa, ba⟩ C = z := ⟨_, rfl⟩
  rw [hK] at K2 HF2
  clear hK
  unfold Slt.val at K2 ⊢
  dsimp only at K2 HF2 ⊢
  cases ba with
  | false =>
    have HE : Hid ((⟨sa, wa, false⟩ : Slt) = ⟨sb, wb, hb⟩) := by show _ = _; rw [HF2.out]; simp
    go_enter Try.func29, Try.ntmps29
    go_wp2
    refine bodyPost_ret (v := .agg #[.string sa, .string wa, .bool false]) (by simp [results, Try.results29, go_sem]) rfl ⟨ret_agg3 HE.out, ?_⟩
    repeat (first | exact Below.refl _ _ | apply Below.drew | (refine Below.setCell ?_ (by simp) _) | (refine Below.alloc ?_ (by simp <;> omega) _))
  | true =>
    have HE : Hid ((⟨K, ⟨#[]⟩, false⟩ : Slt) = ⟨sb, wb, hb⟩) := by show _ = _; rw [HF2.out]; simp
    go_enter Try.func29, Try.ntmps29
    go_wp2
    have c0 : ((w.alloc (.cells #[.string sa, .string wa, .bool true] 47)).alloc (.cells #[.string ⟨#[]⟩, .string ⟨#[]⟩, .bool false] 47)).cell? ⟨w.heap.size, 0, none⟩ = some (.string sa) := by go_simp
    have c1 : ((w.alloc (.cells #[.string sa, .string wa, .bool true] 47)).alloc (.cells #[.string ⟨#[]⟩, .string ⟨#[]⟩, .bool false] 47)).cell? ⟨w.heap.size, 1, none⟩ = some (.string wa) := by go_simp
    have c2 : ((w.alloc (.cells #[.string sa, .string wa, .bool true] 47)).alloc (.cells #[.string ⟨#[]⟩, .string ⟨#[]⟩, .bool false] 47)).cell? ⟨w.heap.size, 2, none⟩ = some (.bool true) := by go_simp
    have c3 : ((w.alloc (.cells #[.string sa, .string wa, .bool true] 47)).alloc (.cells #[.string ⟨#[]⟩, .string ⟨#[]⟩, .bool false] 47)).cell? ⟨BC, 0, none⟩ = some (.slice a n cap) := by go_simp
    have d0 : ((w.alloc (.cells #[.string sa, .string wa, .bool true] 47)).alloc (.cells #[.string ⟨#[]⟩, .string ⟨#[]⟩, .bool false] 47)).cell? ⟨w.heap.size + 1, 0, none⟩ = some (.string ⟨#[]⟩) := by go_simp
    have d1 : ((w.alloc (.cells #[.string sa, .string wa, .bool true] 47)).alloc (.cells #[.string ⟨#[]⟩, .string ⟨#[]⟩, .bool false] 47)).cell? ⟨w.heap.size + 1, 1, none⟩ = some (.string ⟨#[]⟩) := by go_simp
    have d2 : ((w.alloc (.cells #[.string sa, .string wa, .bool true] 47)).alloc (.cells #[.string ⟨#[]⟩, .string ⟨#[]⟩, .bool false] 47)).cell? ⟨w.heap.size + 1, 2, none⟩ = some (.bool false) := by go_simp
    have df : ∀ o, ((w.alloc (.cells #[.string sa, .string wa, .bool true] 47)).alloc (.cells #[.string ⟨#[]⟩, .string ⟨#[]⟩, .bool false] 47)).frozen? ⟨w.heap.size + 1, o, none⟩ = false := fun o => by go_simp
    have hs1 : ((w.alloc (.cells #[.string sa, .string wa, .bool true] 47)).alloc (.cells #[.string ⟨#[]⟩, .string ⟨#[]⟩, .bool false] 47)).heap.size = w.heap.size + 2 := by simp
    have hbW : Below w.heap.size w ((w.alloc (.cells #[.string sa, .string wa, .bool true] 47)).alloc (.cells #[.string ⟨#[]⟩, .string ⟨#[]⟩, .bool false] 47)) := ((Below.refl _ _).alloc (Nat.le_refl _) _).alloc (by simp) _
    generalize (w.alloc (.cells #[.string sa, .string wa, .bool true] 47)).alloc (.cells #[.string ⟨#[]⟩, .string ⟨#[]⟩, .bool false] 47) = W1 at *
    have n1 : w.heap.size + 1 ≠ w.heap.size := by omega
    have n2 : w.heap.size + 1 ≠ BC := by omega
    go_region_held3 (fun w' => w'.cell? ⟨w.heap.size, 0, none⟩ = some (.string sa) ∧ w'.cell? ⟨w.heap.size, 1, none⟩ = some (.string wa) ∧ w'.cell? ⟨w.heap.size, 2, none⟩ = some (.bool true) ∧ w'.cell? ⟨BC, 0, none⟩ = some (.slice a n cap)) (first | go_keep | exact ⟨cell_later hb2 c0, cell_later hb2 c1, cell_later hb2 c2, cell_later hb2 c3⟩ | (refine ⟨?_, ?_, ?_, ?_⟩ <;> (rw [World.cell?_setCell_far, World.cell?_setCell_far, World.cell?_setCell_far] <;> first | exact n1 | exact n2 | exact cell_later hb2 c0 | exact cell_later hb2 c1 | exact cell_later hb2 c2 | exact cell_later hb2 c3)))
      (first
        | (go_at_call 31; refine (K1.out _ hbW.drew).mono ?_; rintro e w' ⟨rfl, rfl⟩)
        | (go_at_call 30; refine (K2.out W1.drew).mono ?_; rintro e w2 ⟨rfl, hb2⟩; have e0 := cell_later hb2 d0; have e1 := cell_later hb2 d1; have e2 := cell_later hb2 d2; have ef : ∀ o, w2.frozen? ⟨w.heap.size + 1, o, none⟩ = false := (fun o => by rw [hb2.frozen (p := ⟨w.heap.size + 1, o, none⟩) (by show w.heap.size + 1 < W1.heap.size; omega)]; exact df o)))
    all_goals
      go_wp2
      obtain ⟨g0, g1, g2⟩ := set3_at (x := .string K) (y := .string ⟨#[]⟩) (z := .bool false) e0 e1 e2
      exact bodyPost_ret (v := .agg #[.string K, .string ⟨#[]⟩, .bool false]) (by simp [results, Try.results29, go_sem, g0, g1, g2]) rfl ⟨ret_agg3 HE.out, (((hbW.drew.trans (hb2.mono hbW.drew.size)).setCell (by simp) _).setCell (by simp) _).setCell (by simp) _⟩
end Go.Proofs.Ytdjlnloalpfmoaa.dk
