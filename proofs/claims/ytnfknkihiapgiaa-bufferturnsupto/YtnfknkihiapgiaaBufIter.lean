/- entries.Parts as an iterator: memory first, then each run. -/
import Derived.Test.YtnfknkihiapgiaaBufSeq
namespace Go.Proofs.Ytnfknkihiapgiaa.bf
open Go.ChangeShapes Go.WideShapes Go.ChangeAt Go.RowKit Go.Shelf
set_option linter.unusedVariables false
set_option linter.unusedSimpArgs false
attribute [local go_sem] Oper.semAt_some
/-- what Pr names, and is cells, lies as it lay -/
def KeepO (Pr : Nat → Obj → Prop) (W W' : World) : Prop := ∀ b o, W.heap[b]? = some o → o.isCells = true → Pr b o → W'.heap[b]? = some o
theorem KeepO.refl (Pr : Nat → Obj → Prop) (W : World) : KeepO Pr W W := fun _ _ h _ _ => h
theorem KeepO.trans {Pr : Nat → Obj → Prop} {A B C : World} (h : KeepO Pr A B) (k : KeepO Pr B C) : KeepO Pr A C := fun b o h1 h2 h3 => k b o (h b o h1 h2 h3) h2 h3
/-- whatever lies in that block is named -/
def names (Pr : Nat → Obj → Prop) (W : World) (b : Nat) : Prop := ∀ o, W.heap[b]? = some o → Pr b o
theorem cell_obj {W : World} {b o : Nat} {v : Value} (hc : W.cell? ⟨b, o, none⟩ = some v) : ∃ x, W.heap[b]? = some x ∧ x.isCells = true := by
  unfold World.cell? at hc
  cases ho : W.heap[b]? with
  | none => simp [ho] at hc
  | some x => exact ⟨x, rfl, by cases x <;> simp_all [Obj.isCells]⟩
theorem KeepO.block {Pr : Nat → Obj → Prop} {W W' : World} {b o : Nat} {v : Value} (h : KeepO Pr W W') (hb : names Pr W b) (hc : W.cell? ⟨b, o, none⟩ = some v) : W'.heap[b]? = W.heap[b]? := by
  obtain ⟨x, h1, h2⟩ := cell_obj hc
  rw [h b x h1 h2 (hb x h1), h1]
theorem KeepO.cell {Pr : Nat → Obj → Prop} {W W' : World} {b o : Nat} {v : Value} (h : KeepO Pr W W') (hb : names Pr W b) (hc : W.cell? ⟨b, o, none⟩ = some v) : W'.cell? ⟨b, o, none⟩ = some v :=
  (World.cell?_of_block (w := W) (a := ⟨b, o, none⟩) (h.block hb hc)).trans hc
theorem KeepO.grown {Pr : Nat → Obj → Prop} {V W W' : World} {row : Option Nat} (h : KeepO Pr V W) (hg : W.grownBy W' row) (hr : ∀ r, row = some r → ∃ o : Obj, W.heap[r]? = some o ∧ o.isCells = false) : KeepO Pr V W' := fun b o h1 h2 h3 => by
  have h4 := h b o h1 h2 h3
  refine (hg.block b (Array.getElem?_eq_some_iff.1 h4).1 (fun e => ?_)).trans h4
  obtain ⟨o', h5, h6⟩ := hr b e.symm
  rw [h4] at h5; cases h5; rw [h2] at h6; cases h6
theorem KeepO.put {Pr : Nat → Obj → Prop} (W : World) (l : Nat) (o o' : Obj) (h : W.heap[l]? = some o) (ho : o.isCells = false) : KeepO Pr W (W.putObj l o') := fun b x h1 h2 _ => by
  by_cases e : b = l
  · subst e; rw [h] at h1; cases h1; rw [ho] at h2; cases h2
  · exact (World.putObj_heap_other e).trans h1
theorem KeepO.alloc {Pr : Nat → Obj → Prop} (W : World) (o : Obj) : KeepO Pr W (W.alloc o) := fun b x h1 _ _ => (Below.heap_alloc W o b (Array.getElem?_eq_some_iff.1 h1).1).trans h1
theorem names_keep {Pr : Nat → Obj → Prop} {W W' : World} {b o : Nat} {v : Value} (h : KeepO Pr W W') (hb : names Pr W b) (hc : W.cell? ⟨b, o, none⟩ = some v) : names Pr W' b := fun x hx => hb x (by rw [← h.block hb hc]; exact hx)
theorem names_below {Pr : Nat → Obj → Prop} {W W' : World} {b n : Nat} (h : Below n W W') (hn : b < n) (hb : names Pr W b) : names Pr W' b := fun x hx => hb x (by rw [← h.block b hn]; exact hx)
/-- where a slice lies, how long it is, and its capacity -/
abbrev Hdr := Option Addr × Nat × Nat
def hdV (h : Hdr) : Value := .slice h.1 h.2.1 h.2.2
/-- a slice that begins at a has these headers -/
def hdsAt (w : World) (a : Option Addr) (l : List Hdr) : Prop :=
  ∀ i, i < l.length → ∃ b off, a = some ⟨b, off, none⟩ ∧ w.cell? ⟨b, off + i, none⟩ = some (hdV (l.getD i (none, 0, 0)))
theorem hdsAt_keep {Pr : Nat → Obj → Prop} {W W' : World} {a : Option Addr} {l : List Hdr} (h : hdsAt W a l) (hk : KeepO Pr W W') (hs : ∀ x, a = some x → names Pr W x.block) : hdsAt W' a l := by
  intro i hi
  obtain ⟨b, o, e, x⟩ := h i hi
  exact ⟨b, o, e, hk.cell (hs _ e) x⟩
theorem calls_unit {P : Program} {f : FuncId} {args : Array Value} {w : World} {R : Ending → World → Prop} (h : CallsIn Fence.wide 0 P f args w R) : Calls P f args w R := callsIn_wide.1 h
set_option maxHeartbeats 1000000 in
theorem parts_iter (BX : Nat) (lim : Int) (m : Hdr) (ra : Option Addr) (rc : Nat) (rs : List Hdr) (Pr : Nat → Obj → Prop) (w : World) (hl : rs.length ≤ 9223372036854775807)
    (h1 : w.cell? ⟨BX, 1, none⟩ = some (hdV m)) (h2 : w.cell? ⟨BX, 2, none⟩ = some (.slice ra rs.length rc)) (hr : hdsAt w ra rs) (hS : names Pr w BX) (hS2 : ∀ x, 0 < rs.length → ra = some x → names Pr w x.block) :
    Iter Try.prog 75 #[.pointer (some ⟨BX, 0, none⟩)] ((m :: rs).map fun h => #[hdV h]) (KeepO Pr) w := by
  intro l J Jx W hb hJ hJx hY h0
  obtain ⟨m1, m2, m3⟩ := m
  have k1 := cell_later hb h1
  have k2 := cell_later hb h2
  have hr' : hdsAt W ra rs := fun i hi => by obtain ⟨b, o, e, x⟩ := hr i hi; exact ⟨b, o, e, cell_later hb x⟩
  unfold hdV at k1
  dsimp only at k1
  have HY : Hid (∀ k x W1, ((((m1, m2, m3) : Hdr) :: rs).map fun h => #[hdV h])[k]? = some x → J k W1 → YieldAt Fence.wide 0 Try.prog l x W1 fun e W' => KeepsFrom W.heap.size W1 W' ∧ ((e = .returned (.bool true) ∧ J (k + 1) W' ∧ KeepO Pr W1 W') ∨ (e = .returned (.bool false) ∧ Jx () W'))) := hY
  have HR : Hid (hdsAt W ra rs) := hr'
  have HS : Hid (names Pr W BX ∧ ∀ x, 0 < rs.length → ra = some x → names Pr W x.block) := ⟨names_below hb (World.block_lt_of_cell? _ _ h1) hS, fun x h0 hx => by
    obtain ⟨b, o, e, y⟩ := hr 0 h0
    rw [hx] at e; cases e
    exact names_below hb (World.block_lt_of_cell? _ _ y) (hS2 _ h0 hx)⟩
  have HL : Hid ((((((m1, m2, m3) : Hdr) :: rs).map fun h => #[hdV h])).length = rs.length + 1) := by show _ = _; simp
  have hyz := hY 0 #[.slice m1 m2 m3] W (by simp [hdV]) h0
  clear hY hr hr' hS hS2 h1 h2 hb
  obtain ⟨n, hn⟩ : ∃ n, rs.length = n := ⟨_, rfl⟩
  have HN : Hid (rs.length = n) := hn
  rw [hn] at k2 hl HL
  clear hn
  rw [HL.out]
  refine callsIn_of_wp Try.func75 rfl trivial ?_ rfl
  simp only [Try.ntmps75, List.size_toArray, List.length_cons, List.length_nil, Nat.reduceAdd, Nat.reduceSub, Array.replicate_succ, Array.replicate_zero, List.push_toArray, List.append_toArray, List.nil_append, List.cons_append]
  obtain ⟨fn, tmps, assign, body, hy, hR⟩ := hyz
  gi_wp2
  refine ⟨rfl, hR.mono ?_⟩
  rintro e W1 ⟨_, (⟨rfl, hJ1, hk1⟩ | ⟨rfl, hJx1⟩)⟩
  · have c2 := hk1.cell HS.out.1 k2
    gi_wp2
    gi_loopw [13] (fun i wr => ∃ k : Nat, k ≤ n ∧ i = .int .i64 k ∧ J (k + 1) wr ∧ KeepO Pr W wr) (fun i _ => n - (intOf i).toNat)
    case atStart => exact ⟨0, Nat.zero_le _, rfl, hJ1, hk1⟩
    case round =>
      obtain ⟨k, hk, rfl, hJk, hkk⟩ := hrel
      by_cases hlt : k < n
      · obtain ⟨b, o, e, x1⟩ := HR.out k (by rw [HN.out]; exact hlt)
        subst e
        have q1 := hkk.cell (HS.out.2 _ (by rw [HN.out]; omega) rfl) x1
        obtain ⟨⟨z1, z2, z3⟩, hz⟩ : ∃ z, rs.getD k (none, 0, 0) = z := ⟨_, rfl⟩
        have hyk := HY.out (k + 1) #[.slice z1 z2 z3] wr (by
          rw [List.map_cons, List.getElem?_cons_succ, List.getElem?_map, List.getElem?_eq_getElem (by rw [HN.out]; exact hlt)]
          rw [List.getD_eq_getElem?_getD, List.getElem?_eq_getElem (by rw [HN.out]; exact hlt)] at hz
          simp at hz
          simp [hz, hdV]) hJk
        rw [hz] at q1
        unfold hdV at q1
        dsimp only at q1
        clear hz x1
        obtain ⟨fn2, tmps2, assign2, body2, hy2, hR2⟩ := hyk
        have i1 : (0 : Int) ≤ (k : Int) := by omega
        have i2 : (k : Int) < (n : Int) := by omega
        gi_wp2
        refine ⟨rfl, hR2.mono ?_⟩
        rintro e W2 ⟨_, (⟨rfl, hJ2, hk2⟩ | ⟨rfl, hJx2⟩)⟩
        · gi_wp2
          go_roundw
          case rel => exact ⟨k + 1, by omega, by go_num, hJ2, hkk.trans hk2⟩
          case measure => simp [intOf]; omega
        · gi_wp2
          refine bodyPost_ret (results_none rfl _ _ _) rfl ?_
          exact ⟨⟨_, rfl⟩, .inr hJx2⟩
      · have hkn : k = n := by omega
        subst hkn
        gi_wp2
        go_end0
        exact ⟨⟨_, rfl⟩, .inl hJk⟩
  · gi_wp2
    refine bodyPost_ret (results_none rfl _ _ _) rfl ?_
    exact ⟨⟨_, rfl⟩, .inr hJx1⟩
end Go.Proofs.Ytnfknkihiapgiaa.bf
