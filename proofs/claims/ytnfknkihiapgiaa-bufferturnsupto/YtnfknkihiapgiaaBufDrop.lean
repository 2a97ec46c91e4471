/- What a buffer that Check finds right is; Drop and Take. -/
import Derived.Test.YtnfknkihiapgiaaBufKept3
namespace Go.Proofs.Ytnfknkihiapgiaa.bf
open Go.ChangeShapes Go.WideShapes Go.ChangeAt Go.RowKit
open vl
set_option linter.unusedVariables false
set_option linter.unusedSimpArgs false
attribute [local go_sem] Oper.semAt_some
theorem OB_mono {w : World} {base base' : Nat} {x : BX} {b : Buf} (h : OB w base x b) (hb : base' ≤ base) : OB w base' x b :=
  ⟨Nat.le_trans hb h.low, h.mem.mono hb, own_mono h.hds hb, h.rlen, fun i hi => (h.runs i hi).mono hb, h.two⟩
theorem errB_ok {b : Buf} (h : errB b = 0) : betw b.lim 1 64 = true ∧ countB b = true ∧ formB b = true := by
  unfold errB at h
  by_cases h1 : betw b.lim 1 64 = false
  · rw [if_pos h1] at h; cases h
  · rw [if_neg h1] at h
    by_cases h2 : countB b = false
    · rw [if_pos h2] at h; cases h
    · rw [if_neg h2] at h
      by_cases h3 : formB b = false
      · rw [if_pos h3] at h; cases h
      · exact ⟨by simpa using h1, by simpa using h2, by simpa using h3⟩
theorem part_le {b : Buf} {l : List Ent} (h : l ∈ partsB b) : l.length ≤ (entsB b).length := by
  unfold entsB
  rw [List.length_flatten]
  generalize partsB b = p at h
  induction p with
  | nil => cases h
  | cons x p ih =>
    rw [List.map_cons, List.sum_cons]
    rcases List.mem_cons.1 h with rfl | h
    · omega
    · have := ih h; omega
theorem full_le (l : List (List Ent)) (h : ∀ r ∈ l, 0 < r.length) : l.length ≤ l.flatten.length := by
  induction l with
  | nil => simp
  | cons x l ih =>
    rw [List.flatten_cons, List.length_append, List.length_cons]
    have := h x (List.mem_cons_self ..)
    have := ih (fun r hr => h r (List.mem_cons_of_mem _ hr))
    omega
/-- what is right of a right buffer -/
structure okB (b : Buf) : Prop where
  lim : 1 ≤ b.lim ∧ b.lim ≤ 64
  mem : (b.mem.length : Int) ≤ b.lim
  all : (entsB b).length ≤ 4096
  fine : ∀ l ∈ partsB b, ∀ y ∈ l, fineE y
  rise : ∀ l ∈ partsB b, ∀ i, i + 1 < l.length → ltP (l.getD i default) (l.getD (i + 1) default)
  full : ∀ r ∈ b.runs, 0 < r.length
  once : ((entsB b).map plOf).Nodup
theorem okB_of {b : Buf} (h : errB b = 0) : okB b := by
  obtain ⟨h1, h2, h3⟩ := errB_ok h
  unfold countB at h2
  unfold formB at h3
  simp only [Bool.and_eq_true, decide_eq_true_eq] at h2 h3
  have hr := allB_iff.1 h3.1
  have hp : ∀ l ∈ partsB b, ∀ i, i < l.length → riseB l i = true := fun l hl i hi => by
    obtain ⟨j, hj, rfl⟩ := List.getElem_of_mem hl
    have := hr j hj
    have e : (partsB b).getD j default = (partsB b)[j] := by rw [List.getD_eq_getElem?_getD, List.getElem?_eq_getElem hj]; rfl
    rw [e] at this
    exact allB_iff.1 this i hi
  refine ⟨(betw_iff _ _ _).1 h1, h2.1, h2.2, fun l hl y hy => ?_, fun l hl i hi => ?_, fun r hr => ?_, ?_⟩
  · obtain ⟨i, hi, rfl⟩ := List.getElem_of_mem hy
    have := hp l hl i hi
    unfold riseB at this
    simp only [Bool.and_eq_true] at this
    have h := fineB_iff.1 this.1
    rw [List.getD_eq_getElem?_getD, List.getElem?_eq_getElem hi] at h
    exact h
  · have := hp l hl (i + 1) hi
    unfold riseB at this
    simp only [Bool.and_eq_true, Bool.or_eq_true, decide_eq_true_eq] at this
    rcases this.2 with h | h
    · omega
    · exact h
  · obtain ⟨i, hi, rfl⟩ := List.getElem_of_mem hr
    have := allB_iff.1 h3.2.1 i hi
    have e : b.runs.getD i default = b.runs[i] := by rw [List.getD_eq_getElem?_getD, List.getElem?_eq_getElem hi]; rfl
    rw [e] at this
    simpa using this
  · have := h3.2.2
    unfold onceB at this
    exact of_decide_eq_true this
theorem okB.small {b : Buf} (h : okB b) : (∀ l ∈ partsB b, l.length ≤ 100000) ∧ b.runs.length ≤ 100000 ∧ ∀ y ∈ entsB b, y.row.length ≤ 1000000 := by
  have h1 := h.all
  refine ⟨fun l hl => by have := part_le hl; omega, ?_, fun y hy => ?_⟩
  · have := full_le b.runs h.full
    have e : (entsB b).length = b.mem.length + b.runs.flatten.length := by unfold entsB partsB; simp
    omega
  · obtain ⟨l, hl, hy⟩ := List.mem_flatten.1 hy
    have hf := (h.fine l hl y hy).2.1
    unfold keyErr at hf
    by_cases h8 : 8 < y.row.length
    · rw [if_pos h8] at hf; cases hf
    · omega
theorem always_any (e : EM) (w : World) : Calls Try.prog 35 #[e.val] w fun r w' => r = .returned (.bool true) ∧ Below w.heap.size w w' := by
  obtain ⟨k1, t1, s1, ⟨a1, b1, c1⟩, m1⟩ := e
  unfold EM.val hdV
  dsimp only
  go_enter Try.func35, Try.ntmps35
  go_wp2
  go_ret
  refine ⟨rfl, ?_⟩
  repeat (first | exact Below.refl _ _ | (refine Below.alloc ?_ (by simp <;> omega) _))
theorem drop1_any (e : EM) (to : Int) (PB : Nat) (w : World) (hP : w.cell? ⟨PB, 0, none⟩ = some (.int .i64 to)) :
    Calls Try.prog 54 #[e.val, .pointer (some ⟨PB, 0, none⟩)] w fun r w' => r = .returned (.bool (decide (to < e.time))) ∧ Below w.heap.size w w' := by
  obtain ⟨k1, t1, s1, ⟨a1, b1, c1⟩, m1⟩ := e
  unfold EM.val hdV
  dsimp only
  have lP : PB < w.heap.size := World.block_lt_of_cell? _ _ hP
  by_cases hd : to < t1
  · have HD : Hid (decide (to < t1) = true) := decide_eq_true hd
    go_enter Try.func54, Try.ntmps54
    go_wp2
    go_ret
    exact ⟨ret_bool (by rw [HD.out]), (Below.refl _ _).alloc (Nat.le_refl _) _⟩
  · have HD : Hid (decide (to < t1) = false) := decide_eq_false hd
    go_enter Try.func54, Try.ntmps54
    go_wp2
    go_ret
    exact ⟨ret_bool (by rw [HD.out]), (Below.refl _ _).alloc (Nat.le_refl _) _⟩
def emptyV : Value := .agg #[.int .i64 0, .slice none 0 0, .slice none 0 0]
/-- the entries behind a time -/
def afterT (to : Int) (y : Ent) : Bool := decide (to < y.time)
set_option maxHeartbeats 4000000 in
theorem drop_bad (b : Buf) (x : BX) (to : Int) (w : World) (h : bufAt w b x) (hw : ∀ y ∈ entsB b, wfE y ∧ wfP (plOf y)) (hs : (entsB b).length ≤ 4611686018427387904) (he : errB b ≠ 0) :
    Calls Try.prog 22 #[bufV b x, .int .i64 to] w fun e w' => e = .returned (.tuple #[emptyV, .int .i64 (errB b)]) ∧ Below w.heap.size w w' := by
  have KC : Hid (∀ w1, Below w.heap.size w w1 → Calls Try.prog 14 #[bufV b x] w1 fun e w' => e = .returned (.int .i64 (errB b)) ∧ Below w1.heap.size w1 w') := fun w1 hb => check_any b x w1 (bufAt_below h hb) hw hs
  obtain ⟨E, hE⟩ : ∃ z, errB b = z := ⟨_, rfl⟩
  rw [hE] at KC he ⊢
  clear hE h hw hs
  obtain ⟨ra, rc, ⟨⟨m1, m2, m3⟩, ml⟩, rs⟩ := x
  obtain ⟨lim, mem, runs⟩ := b
  unfold bufV hdV at KC ⊢
  unfold emptyV
  dsimp only at KC ⊢
  obtain ⟨n, hn⟩ : ∃ n, rs.length = n := ⟨_, rfl⟩
  rw [hn] at KC ⊢
  clear hn
  have hb0 : Below w.heap.size w (((w.alloc (.cells #[.int .i64 lim, .slice m1 m2 m3, .slice ra n rc] 25)).alloc (.cells #[.int .i64 to] 3)).alloc (.cells #[.int .i64 0, .slice none 0 0, .slice none 0 0] 25)) := by
    repeat (first | exact Below.refl _ _ | (refine Below.alloc ?_ (by simp <;> omega) _))
  have hbe : (E != 0) = true := by simpa using he
  have NBV := nb_alloc ((w.alloc (.cells #[.int .i64 lim, .slice m1 m2 m3, .slice ra n rc] 25)).alloc (.cells #[.int .i64 to] 3))
  rw [World.size_alloc, World.size_alloc] at NBV
  have HNB : Hid (nbAt (((w.alloc (.cells #[.int .i64 lim, .slice m1 m2 m3, .slice ra n rc] 25)).alloc (.cells #[.int .i64 to] 3)).alloc (.cells #[.int .i64 0, .slice none 0 0, .slice none 0 0] 25)) (w.heap.size + 1 + 1)) := NBV
  clear NBV
  go_enter Try.func22, Try.ntmps22
  go_wp2_with (go_at_call 14; refine (KC.out _ hb0).mono ?_; rintro e w2 ⟨rfl, hb2⟩; obtain ⟨n0, n1, n2, o0, o1, o2, n3⟩ := nb_below hb2 HNB.out)
  have hbw : Below w.heap.size w w2 := hb0.trans (hb2.mono hb0.size)
  exact bodyPost_ret (v := .tuple #[.agg #[.int .i64 0, .slice none 0 0, .slice none 0 0], .int .i64 E]) (by simp [results, Try.results22, go_sem, n0, n1, n2]) rfl ⟨rfl, ((hbw.setCell (by dsimp only; omega) _).setCell (by dsimp only; omega) _).setCell (by dsimp only; omega) _⟩
set_option maxHeartbeats 4000000 in
theorem drop_ok (b : Buf) (x : BX) (to : Int) (w : World) (h : bufAt w b x) (hw : ∀ y ∈ entsB b, wfE y ∧ wfP (plOf y)) (hs : (entsB b).length ≤ 4611686018427387904) (he : errB b = 0) :
    Calls Try.prog 22 #[bufV b x, .int .i64 to] w fun e w' => (∃ x', e = .returned (.tuple #[bufV (keptB (afterT to) b) x', .int .i64 0]) ∧ OB w' w.heap.size x' (keptB (afterT to) b)) ∧ Below w.heap.size w w' := by
  have KC : Hid (∀ w1, Below w.heap.size w w1 → Calls Try.prog 14 #[bufV b x] w1 fun e w' => e = .returned (.int .i64 0) ∧ Below w1.heap.size w1 w') := fun w1 hb => by
    have := check_any b x w1 (bufAt_below h hb) hw hs
    rwa [he] at this
  have hsm := (okB_of he).small
  have KK : Hid (∀ w1, Below w.heap.size w w1 → w1.cell? ⟨w.heap.size + 1, 0, none⟩ = some (.int .i64 to) → Calls Try.prog 34 #[bufV b x, .func (.func 54) #[] #[.pointer (some ⟨w.heap.size + 1, 0, none⟩)]] w1 fun e w' => (∃ x', e = .returned (bufV (keptB (afterT to) b) x') ∧ OB w' w1.heap.size x' (keptB (afterT to) b)) ∧ Below w1.heap.size w1 w') := fun w1 hb hc =>
    kept_any 54 (enters_of Try.func54 (by kernel_rfl) rfl) #[.pointer (some ⟨w.heap.size + 1, 0, none⟩)] (afterT to) b x w1 (bufAt_below h hb) hsm.1 hsm.2.1 hsm.2.2 (fun e y w2 her _ hb2 => by
      have := drop1_any e to (w.heap.size + 1) w2 (cell_later hb2 hc)
      rw [her.time] at this
      exact this)
  clear h hw hs he hsm
  obtain ⟨lim', hlim⟩ : ∃ z, (keptB (afterT to) b) = z := ⟨_, rfl⟩
  rw [hlim] at KK ⊢
  clear hlim
  obtain ⟨ra, rc, ⟨⟨m1, m2, m3⟩, ml⟩, rs⟩ := x
  obtain ⟨lim, mem, runs⟩ := b
  rw [show bufV ⟨lim, mem, runs⟩ ⟨ra, rc, ((m1, m2, m3), ml), rs⟩ = .agg #[.int .i64 lim, .slice m1 m2 m3, .slice ra rs.length rc] from rfl] at KC KK ⊢
  obtain ⟨n, hn⟩ : ∃ n, rs.length = n := ⟨_, rfl⟩
  rw [hn] at KC KK ⊢
  clear hn
  have hb0 : Below w.heap.size w (((w.alloc (.cells #[.int .i64 lim, .slice m1 m2 m3, .slice ra n rc] 25)).alloc (.cells #[.int .i64 to] 3)).alloc (.cells #[.int .i64 0, .slice none 0 0, .slice none 0 0] 25)) := by
    repeat (first | exact Below.refl _ _ | (refine Below.alloc ?_ (by simp <;> omega) _))
  have NBV := nb_alloc ((w.alloc (.cells #[.int .i64 lim, .slice m1 m2 m3, .slice ra n rc] 25)).alloc (.cells #[.int .i64 to] 3))
  rw [World.size_alloc, World.size_alloc] at NBV
  have HNB : Hid (nbAt (((w.alloc (.cells #[.int .i64 lim, .slice m1 m2 m3, .slice ra n rc] 25)).alloc (.cells #[.int .i64 to] 3)).alloc (.cells #[.int .i64 0, .slice none 0 0, .slice none 0 0] 25)) (w.heap.size + 1 + 1)) := NBV
  clear NBV
  go_enter Try.func22, Try.ntmps22
  go_wp2_with (first
    | (go_at_call 14; refine (KC.out _ hb0).mono ?_; rintro e w2 ⟨rfl, hb2⟩; have hbw : Below w.heap.size w w2 := hb0.trans (hb2.mono hb0.size); have nb2 := nb_below hb2 HNB.out; have k0 : w2.cell? ⟨w.heap.size, 0, none⟩ = some (.int .i64 lim) := cell_later hb2 (by go_simp); have k1 : w2.cell? ⟨w.heap.size, 1, none⟩ = some (.slice m1 m2 m3) := cell_later hb2 (by go_simp); have k2 : w2.cell? ⟨w.heap.size, 2, none⟩ = some (.slice ra n rc) := cell_later hb2 (by go_simp); have k3 : w2.cell? ⟨w.heap.size + 1, 0, none⟩ = some (.int .i64 to) := cell_later hb2 (by go_simp))
    | (go_at_call 34; refine (KK.out _ hbw k3).mono ?_; rintro e w3 ⟨⟨⟨ra', rc', ⟨⟨a1, a2, a3⟩, ml'⟩, rs'⟩, rfl, hob⟩, hb3⟩; rw [show bufV lim' ⟨ra', rc', ((a1, a2, a3), ml'), rs'⟩ = .agg #[.int .i64 lim'.lim, .slice a1 a2 a3, .slice ra' rs'.length rc'] from rfl]; have HNB3 : Hid (nbAt w3 (w.heap.size + 1 + 1)) := nb_below hb3 nb2; obtain ⟨n0, n1, n2, o0, o1, o2, n3⟩ := HNB3.out))
  have hbx : Below w.heap.size w w3 := hbw.trans (hb3.mono hbw.size)
  refine bodyPost_ret (v := .tuple #[.agg #[.int .i64 lim'.lim, .slice a1 a2 a3, .slice ra' rs'.length rc'], .int .i64 0]) (by simp [results, Try.results22, go_sem, n0, n1, n2]) rfl ⟨⟨⟨ra', rc', ((a1, a2, a3), ml'), rs'⟩, rfl, ?_⟩, ((hbx.setCell (by dsimp only; omega) _).setCell (by dsimp only; omega) _).setCell (by dsimp only; omega) _⟩
  exact OB_set3 (OB_mono hob hbw.size) n3 _ _ _
end Go.Proofs.Ytnfknkihiapgiaa.bf
