/- A map of places that have come once each: what a look-up and 'seen[p]++' do to it. -/
import Derived.Test.YtnfknkihiapgiaaBufForm
import Derived.DeepKeys3
namespace Go.Proofs.Ytnfknkihiapgiaa.bf
open Go.ChangeShapes Go.WideShapes Go.ChangeAt Go.RowKit
set_option linter.unusedVariables false
set_option linter.unusedSimpArgs false
abbrev Plc := ByteArray × Int × Int
def plcV (p : Plc) : Value := .agg #[.string p.1, .int .i64 p.2.1, .int .i64 p.2.2]
theorem bytes_beq (a b : ByteArray) : (a.toList == b.toList) = decide (a = b) := by
  by_cases h : a = b
  · subst h; simp
  · rw [decide_eq_false h, beq_eq_false_iff_ne]
    intro e
    exact h (ByteArray.ext (Array.ext' (by rwa [Lib.toList_data, Lib.toList_data] at e)))
set_option maxRecDepth 100000 in
theorem eq_plc (a b : Plc) (w : World) : (Op.equal 58 (plcV a) (plcV b)).run Try.prog w = .ok (decide (a = b)) w := by
  obtain ⟨k1, t1, s1⟩ := a
  obtain ⟨k2, t2, s2⟩ := b
  show (Op.equalIn 10000 58 (plcV (k1, t1, s1)) (plcV (k2, t2, s2))).run Try.prog w = _
  unfold plcV
  have h : (binOp .eql 58 (.agg #[.string k1, .int .i64 t1, .int .i64 s1]) (.agg #[.string k2, .int .i64 t2, .int .i64 s2])).run Try.prog w = .ok (.bool (decide ((k1, t1, s1) = (k2, t2, s2)))) w := by
    by_cases h1 : k1.toList = k2.toList
    · have e1 : k1 = k2 := by have := bytes_beq k1 k2; rw [h1] at this; simpa using this.symm
      subst e1
      by_cases h2 : t1 = t2
      · subst h2
        by_cases h3 : s1 = s2
        · subst h3; go_simp
        · have h3' : (s1 == s2) = false := by simpa using h3
          go_simp
      · have h2' : (t1 == t2) = false := by simpa using h2
        go_simp
    · have e1 : k1 ≠ k2 := fun e => h1 (by rw [e])
      go_simp
  rw [run_eql_struct] at h
  cases hh : (Op.equalIn 10000 58 (.agg #[.string k1, .int .i64 t1, .int .i64 s1]) (.agg #[.string k2, .int .i64 t2, .int .i64 s2])).run Try.prog w with
  | ok b w' =>
    rw [hh] at h
    simp only [Result.andThen] at h
    injection h with h1 h2
    injection h1 with h1
    rw [h1, h2]
  | _ => rw [hh] at h; simp [Result.andThen] at h
structure wfP (a : Plc) : Prop where
  key : a.1.size ≤ maxLen
  time : -9223372036854775808 ≤ a.2.1 ∧ a.2.1 ≤ 9223372036854775807
  seq : -9223372036854775808 ≤ a.2.2 ∧ a.2.2 ≤ 9223372036854775807
theorem wf_lit {n : Int} (h : -9223372036854775808 ≤ n ∧ n ≤ 9223372036854775807) : (Lit.int .i64 n).wf = true := by
  show (decide (IntKind.i64.min ≤ n) && decide (n ≤ IntKind.i64.max)) = true
  have e1 : IntKind.i64.min = -9223372036854775808 := by decide
  have e2 : IntKind.i64.max = 9223372036854775807 := by decide
  rw [e1, e2, decide_eq_true h.1, decide_eq_true h.2]; rfl
theorem lits_shape (a b c : Value) : Try.prog.keyLits 3 58 [a, b, c] = ([Try.prog.keyLits 2 9 [a], Try.prog.keyLits 2 3 [b], Try.prog.keyLits 2 3 [c]].mapM id).map List.flatten := by kernel_rfl
theorem lits_str (k : ByteArray) (h : k.size ≤ maxLen) : Try.prog.keyLits 2 9 [.string k] = some [.string k.data.toList] := by
  have e : Try.prog.keyLits 2 9 [.string k] = if k.size ≤ maxLen then some [.string k.data.toList] else none := by
    unfold Program.keyLits; rw [Try.underlying9]
  rw [e, if_pos h]
theorem lits_int (n : Int) (h : (Lit.int .i64 n).wf = true) : Try.prog.keyLits 2 3 [.int .i64 n] = some [.int .i64 n] := by
  have e : Try.prog.keyLits 2 3 [.int .i64 n] = if IntKind.i64 = IntKind.i64 ∧ (Lit.int .i64 n).wf = true then some [.int .i64 n] else none := by
    unfold Program.keyLits; rw [Try.underlying3]
  rw [e, if_pos ⟨rfl, h⟩]
theorem check_plc (em : Bool) (a : Plc) (w : World) (h : wfP a) : (Instr.checkKey em 10000 58 (plcV a)).run Try.prog w = .ok () w := by
  have := run_checkKey_deep (P := Try.prog) em 9997 3 58 (by kernel_rfl) w 3 (plcV a) [.string a.1.data.toList, .int .i64 a.2.1, .int .i64 a.2.2] (by kernel_rfl) (by
    show Try.prog.keyLits 3 58 [.string a.1, .int .i64 a.2.1, .int .i64 a.2.2] = _
    rw [lits_shape, lits_str _ h.key, lits_int _ (wf_lit h.time), lits_int _ (wf_lit h.seq)]
    rfl)
  exact this
section
variable {p : Plc} {w : World}
theorem find_none : ∀ (es : List MapEntry) (i : Nat), (∀ e ∈ es, ∃ q, e.key = plcV q ∧ q ≠ p) → (Instr.findAsking 58 (plcV p) es i).run Try.prog w = .ok none w
  | [], i, _ => by simp [Instr.findAsking]
  | e :: es, i, h => by
    obtain ⟨q, hq, hne⟩ := h e (List.mem_cons_self ..)
    have ih := find_none es (i + 1) (fun x hx => h x (List.mem_cons_of_mem _ hx))
    have hd : decide (p = q) = false := decide_eq_false (fun h => hne h.symm)
    simp only [Instr.findAsking, Sem.run_bind, hq, eq_plc, Result.andThen_ok, hd, Bool.false_eq_true, if_false]
    exact ih
theorem find_some {e : MapEntry} (he : e.key = plcV p) (B : List MapEntry) : ∀ (A : List MapEntry) (i : Nat), (∀ e ∈ A, ∃ q, e.key = plcV q ∧ q ≠ p) → (Instr.findAsking 58 (plcV p) (A ++ e :: B) i).run Try.prog w = .ok (some (i + A.length, e.val)) w
  | [], i, _ => by
    simp only [List.nil_append, Instr.findAsking, Sem.run_bind, he, eq_plc, Result.andThen_ok, decide_true, if_true]
    simp
  | x :: A, i, h => by
    obtain ⟨q, hq, hne⟩ := h x (List.mem_cons_self ..)
    have ih := find_some he B A (i + 1) (fun x hx => h x (List.mem_cons_of_mem _ hx))
    have hd : decide (p = q) = false := decide_eq_false (fun h => hne h.symm)
    simp only [List.cons_append, Instr.findAsking, Sem.run_bind, hq, eq_plc, Result.andThen_ok, hd, Bool.false_eq_true, if_false]
    rw [ih, List.length_cons]
    congr 3
    omega
theorem find_key (es : List MapEntry) : (Instr.findKey 58 (plcV p) es).run Try.prog w = (Instr.findAsking 58 (plcV p) es 0).run Try.prog w := by
  unfold Instr.findKey
  simp only [Sem.run_bind, run_underlying Try.underlying58, Result.andThen_ok]
  cases es with
  | nil => simp [Instr.findNow, Instr.findAsking]
  | cons e es =>
    have h : ∀ fs, Instr.findNow (.struct fs) (plcV p) (e :: es) 0 = none := fun fs => by
      simp [Instr.findNow, Instr.sameNow]
    rw [h]
variable {M clock : Nat} {es : Array MapEntry}
theorem run_get (h : w.heap[M]? = some (.map es clock)) : (getObj M).run Try.prog w = .ok (.map es clock) w := by simp [getObj, Sem.run, h]
theorem run_set (o' : Obj) (h : w.heap[M]? = some (.map es clock)) : (setObj M o').run Try.prog w = .ok () (w.putObj M o') := by simp [setObj, Sem.run, h, World.putObj]
theorem zero3 (w : World) : (zeroValue 3).run Try.prog w = .ok (.int .i64 0) w := Try.zeroValue3 w
theorem look_none (hm : w.heap[M]? = some (.map es clock)) (hp : wfP p) (hn : ∀ e ∈ es.toList, ∃ q, e.key = plcV q ∧ q ≠ p) :
    (Instr.lookup 121 (.map (some M)) (plcV p) false).run Try.prog w = .ok (.int .i64 0) w := by
  unfold Instr.lookup
  simp only [Sem.run_bind, run_underlying Try.underlying121, Result.andThen_ok, run_get hm, Sem.run_pure, check_plc _ p w hp, find_key, find_none _ _ hn, zero3, Bool.false_eq_true, if_false]
theorem look_some {A B : List MapEntry} {e : MapEntry} (hm : w.heap[M]? = some (.map (A ++ e :: B).toArray clock)) (hp : wfP p) (hn : ∀ e ∈ A, ∃ q, e.key = plcV q ∧ q ≠ p) (he : e.key = plcV p) :
    (Instr.lookup 121 (.map (some M)) (plcV p) false).run Try.prog w = .ok e.val w := by
  unfold Instr.lookup
  simp only [Sem.run_bind, run_underlying Try.underlying121, Result.andThen_ok, run_get hm, Sem.run_pure, check_plc _ p w hp, find_key, find_some he B A 0 hn, Bool.false_eq_true, if_false]
theorem entry_none (hm : w.heap[M]? = some (.map es clock)) (hp : wfP p) (hn : ∀ e ∈ es.toList, ∃ q, e.key = plcV q ∧ q ≠ p) :
    (Instr.mapEntry 121 (.map (some M)) (plcV p)).run Try.prog w = .ok (.tuple #[.int .i64 0, .int .i64 clock]) (w.putObj M (.map (es.push ⟨plcV p, .int .i64 0, clock⟩) (clock + 1))) := by
  unfold Instr.mapEntry
  simp only [Sem.run_bind, run_underlying Try.underlying121, Result.andThen_ok, run_get hm, Sem.run_pure, check_plc _ p w hp, find_key, find_none _ _ hn, zero3, run_set _ hm, goInt]
theorem stays_plc : (Instr.sameBits 10000 (plcV p) (plcV p)) = true := by
  have hb : (p.1 == p.1) = true := by
    obtain ⟨⟨⟨x⟩⟩, t⟩ := p
    show ((⟨x⟩ : Array UInt8) == ⟨x⟩) = true
    simp
  unfold plcV
  simp [Instr.sameBits, hb]
theorem entry_some {A B : List MapEntry} {e : MapEntry} (hm : w.heap[M]? = some (.map (A ++ e :: B).toArray clock)) (hp : wfP p) (hn : ∀ e ∈ A, ∃ q, e.key = plcV q ∧ q ≠ p) (he : e.key = plcV p) :
    (Instr.mapEntry 121 (.map (some M)) (plcV p)).run Try.prog w = .ok (.tuple #[e.val, .int .i64 e.born]) (w.putObj M (.map (A ++ e :: B).toArray clock)) := by
  have h1 : (A ++ e :: B).toArray[0 + A.length]? = some e := by simp
  have h2 : ((A ++ e :: B).toArray.modify (0 + A.length) fun x => { x with key := plcV p }) = (A ++ e :: B).toArray := by
    refine Array.ext (by simp) (fun i h3 h4 => ?_)
    rw [Array.getElem_modify]
    split
    · rename_i h5
      subst h5
      have : (A ++ e :: B).toArray[0 + A.length] = e := by simp
      rw [this, ← he]
    · rfl
  unfold Instr.mapEntry
  simp only [Sem.run_bind, run_underlying Try.underlying121, Result.andThen_ok, run_get hm, Sem.run_pure, check_plc _ p w hp, find_key, find_some he B A 0 hn, h1, Option.map_some, Option.getD_some, he, Instr.keyThatStays, stays_plc, if_true, h2, run_set _ hm, goInt]
theorem store_at {i : Nat} {v : Value} {born : Int} (hm : w.heap[M]? = some (.map es clock)) (hi : es.findIdx? (fun e => (e.born : Int) == born) = some i) :
    (Instr.entryStore 121 (.map (some M)) (.int .i64 born) v).run Try.prog w = .ok () (w.putObj M (.map (es.modify i fun e => { e with val := v }) clock)) := by
  unfold Instr.entryStore
  simp only [Sem.run_bind, Result.andThen_ok, run_get hm, Sem.run_pure, asInt, asIntOf, hi, run_set _ hm]
end
/-- a map in which these places have come, once each -/
def esFrom : Nat → List Plc → List MapEntry
  | _, [] => []
  | i, p :: ps => ⟨plcV p, .int .i64 1, i⟩ :: esFrom (i + 1) ps
theorem esFrom_app (i : Nat) (ps qs : List Plc) : esFrom i (ps ++ qs) = esFrom i ps ++ esFrom (i + ps.length) qs := by
  induction ps generalizing i with
  | nil => rfl
  | cons p ps ih => rw [List.cons_append, esFrom, ih, esFrom, List.length_cons, show i + (ps.length + 1) = i + 1 + ps.length by omega]; rfl
theorem esFrom_len (i : Nat) (ps : List Plc) : (esFrom i ps).length = ps.length := by
  induction ps generalizing i with
  | nil => rfl
  | cons p ps ih => rw [esFrom, List.length_cons, ih, List.length_cons]
theorem esFrom_mem {i : Nat} {ps : List Plc} {e : MapEntry} (h : e ∈ esFrom i ps) : (∃ q, q ∈ ps ∧ e.key = plcV q) ∧ i ≤ e.born ∧ e.born < i + ps.length := by
  induction ps generalizing i with
  | nil => cases h
  | cons p ps ih =>
    rw [esFrom] at h
    rcases List.mem_cons.1 h with rfl | h
    · exact ⟨⟨p, List.mem_cons_self .., rfl⟩, Nat.le_refl _, by simp⟩
    · obtain ⟨⟨q, hq, hk⟩, h1, h2⟩ := ih h
      exact ⟨⟨q, List.mem_cons_of_mem _ hq, hk⟩, by omega, by rw [List.length_cons]; omega⟩
def mapAt (W : World) (M : Nat) (ps : List Plc) : Prop := W.heap[M]? = some (.map (esFrom 0 ps).toArray ps.length)
theorem mapAt_lt {W : World} {M : Nat} {ps : List Plc} (h : mapAt W M ps) : M < W.heap.size := (Array.getElem?_eq_some_iff.1 h).1
theorem find_born {A B : List MapEntry} {e : MapEntry} {n : Nat} (hA : ∀ x ∈ A, x.born ≠ n) (he : e.born = n) : (A ++ e :: B).toArray.findIdx? (fun x => (x.born : Int) == (n : Int)) = some A.length := by
  rw [List.findIdx?_toArray, List.findIdx?_append]
  have h1 : A.findIdx? (fun x => (x.born : Int) == (n : Int)) = none := by
    rw [List.findIdx?_eq_none_iff]
    intro x hx
    have := hA x hx
    rw [beq_eq_false_iff_ne]; omega
  rw [h1]
  simp [List.findIdx?_cons, he]
theorem modify_at {A B : List MapEntry} {e : MapEntry} (f : MapEntry → MapEntry) : (A ++ e :: B).toArray.modify A.length f = (A ++ f e :: B).toArray := by
  refine Array.ext (by simp) (fun i h3 h4 => ?_)
  rw [Array.getElem_modify]
  simp only [List.getElem_toArray]
  split
  · rename_i h5
    subst h5
    simp
  · rename_i h5
    rcases Nat.lt_or_ge i A.length with h | h
    · rw [List.getElem_append_left h, List.getElem_append_left h]
    · rw [List.getElem_append_right h, List.getElem_append_right h]
      have : i - A.length = (i - A.length - 1) + 1 := by omega
      simp only [List.getElem_cons]
      rw [dif_neg (by omega), dif_neg (by omega)]
theorem split_first {ps : List Plc} {p : Plc} (h : p ∈ ps) : ∃ A B, ps = A ++ p :: B ∧ p ∉ A := by
  induction ps with
  | nil => cases h
  | cons q ps ih =>
    by_cases e : q = p
    · subst e; exact ⟨[], ps, rfl, by simp⟩
    · obtain ⟨A, B, h1, h2⟩ := ih ((List.mem_cons.1 h).resolve_left (fun k => e k.symm))
      exact ⟨q :: A, B, by rw [h1]; rfl, fun k => (List.mem_cons.1 k).elim (fun k => e k.symm) h2⟩
theorem map_new {W : World} {M : Nat} {ps : List Plc} {p : Plc} (hm : mapAt W M ps) (hp : wfP p) (hn : p ∉ ps) : ∃ W3 W4,
    (Instr.lookup 121 (.map (some M)) (plcV p) false).run Try.prog W = .ok (.int .i64 0) W ∧
    (Instr.mapEntry 121 (.map (some M)) (plcV p)).run Try.prog W = .ok (.tuple #[.int .i64 0, .int .i64 ps.length]) W3 ∧
    (Instr.lookup 121 (.map (some M)) (plcV p) false).run Try.prog W3 = .ok (.int .i64 0) W3 ∧
    (Instr.entryStore 121 (.map (some M)) (.int .i64 ps.length) (.int .i64 1)).run Try.prog W3 = .ok () W4 ∧
    mapAt W4 M (ps ++ [p]) ∧ W.grownBy W4 (some M) := by
  have hno : ∀ e ∈ esFrom 0 ps, ∃ q, e.key = plcV q ∧ q ≠ p := fun e he => by
    obtain ⟨⟨q, hq, hk⟩, _⟩ := esFrom_mem he
    exact ⟨q, hk, fun h => hn (by rw [← h]; exact hq)⟩
  have h1 := look_none hm hp (by simpa using hno)
  have h2 := entry_none hm hp (by simpa using hno)
  obtain ⟨W3, hW3⟩ : ∃ z, W.putObj M (.map ((esFrom 0 ps).toArray.push ⟨plcV p, .int .i64 0, ps.length⟩) (ps.length + 1)) = z := ⟨_, rfl⟩
  rw [hW3] at h2
  have hm3 : W3.heap[M]? = some (.map (esFrom 0 ps ++ (⟨plcV p, .int .i64 0, ps.length⟩ : MapEntry) :: []).toArray (ps.length + 1)) := by
    rw [← hW3, World.putObj_heap_same (mapAt_lt hm)]; simp
  have h3 := look_some hm3 hp hno rfl
  have h4 := store_at (v := .int .i64 1) hm3 (find_born (n := ps.length) (fun x hx => by have := (esFrom_mem hx).2.2; omega) rfl)
  rw [modify_at] at h4
  obtain ⟨W4, hW4⟩ : ∃ z, W3.putObj M (.map (esFrom 0 ps ++ { (⟨plcV p, .int .i64 0, ps.length⟩ : MapEntry) with val := .int .i64 1 } :: []).toArray (ps.length + 1)) = z := ⟨_, rfl⟩
  rw [hW4] at h4
  refine ⟨W3, W4, h1, h2, h3, h4, ?_, ?_⟩
  · show W4.heap[M]? = _
    rw [← hW4, World.putObj_heap_same (Array.getElem?_eq_some_iff.1 hm3).1, esFrom_app, List.length_append]
    simp [esFrom]
  · rw [← hW4, ← hW3]
    exact ⟨rfl, rfl, rfl, by simp, fun k _ hk => (World.putObj_heap_other (fun e => hk (by rw [e]))).trans (World.putObj_heap_other (fun e => hk (by rw [e])))⟩
theorem map_old {W : World} {M : Nat} {ps : List Plc} {p : Plc} (hm : mapAt W M ps) (hp : wfP p) (hn : p ∈ ps) : ∃ (b : Nat) (W3 W4 : World),
    (Instr.lookup 121 (.map (some M)) (plcV p) false).run Try.prog W = .ok (.int .i64 1) W ∧
    (Instr.mapEntry 121 (.map (some M)) (plcV p)).run Try.prog W = .ok (.tuple #[.int .i64 1, .int .i64 b]) W3 ∧
    (Instr.lookup 121 (.map (some M)) (plcV p) false).run Try.prog W3 = .ok (.int .i64 1) W3 ∧
    (Instr.entryStore 121 (.map (some M)) (.int .i64 b) (.int .i64 2)).run Try.prog W3 = .ok () W4 ∧
    (∀ W5 : World, W5.heap[M]? = W4.heap[M]? → (Instr.lookup 121 (.map (some M)) (plcV p) false).run Try.prog W5 = .ok (.int .i64 2) W5) ∧ W.grownBy W4 (some M) := by
  obtain ⟨A, B, rfl, hA⟩ : ∃ A B, ps = A ++ p :: B ∧ p ∉ A := split_first hn
  have hm' : W.heap[M]? = some (.map (esFrom 0 A ++ (⟨plcV p, .int .i64 1, A.length⟩ : MapEntry) :: esFrom (A.length + 1) B).toArray (A ++ p :: B).length) := by
    have := hm
    unfold mapAt at this
    rw [esFrom_app, Nat.zero_add, esFrom] at this
    exact this
  have hno : ∀ e ∈ esFrom 0 A, ∃ q, e.key = plcV q ∧ q ≠ p := fun e he => by
    obtain ⟨⟨q, hq, hk⟩, _⟩ := esFrom_mem he
    exact ⟨q, hk, fun h => hA (by rw [← h]; exact hq)⟩
  have h1 := look_some hm' hp hno rfl
  have h2 := entry_some hm' hp hno rfl
  obtain ⟨W3, hW3⟩ : ∃ z, W.putObj M (.map (esFrom 0 A ++ (⟨plcV p, .int .i64 1, A.length⟩ : MapEntry) :: esFrom (A.length + 1) B).toArray (A ++ p :: B).length) = z := ⟨_, rfl⟩
  rw [hW3] at h2
  have hm3 : W3.heap[M]? = some (.map (esFrom 0 A ++ (⟨plcV p, .int .i64 1, A.length⟩ : MapEntry) :: esFrom (A.length + 1) B).toArray (A ++ p :: B).length) := by
    rw [← hW3, World.putObj_heap_same (mapAt_lt hm)]
  have h3 := look_some hm3 hp hno rfl
  have hl : (esFrom 0 A).length = A.length := esFrom_len 0 A
  have h4 := store_at (v := .int .i64 2) hm3 (find_born (n := A.length) (fun x hx => by have := (esFrom_mem hx).2.2; omega) rfl)
  rw [modify_at] at h4
  obtain ⟨W4, hW4⟩ : ∃ z, W3.putObj M (.map (esFrom 0 A ++ { (⟨plcV p, .int .i64 1, A.length⟩ : MapEntry) with val := .int .i64 2 } :: esFrom (A.length + 1) B).toArray (A ++ p :: B).length) = z := ⟨_, rfl⟩
  rw [hW4] at h4
  refine ⟨A.length, W3, W4, h1, h2, h3, h4, fun W5 h5 => ?_, ?_⟩
  · have hm5 : W5.heap[M]? = some (.map (esFrom 0 A ++ { (⟨plcV p, .int .i64 1, A.length⟩ : MapEntry) with val := .int .i64 2 } :: esFrom (A.length + 1) B).toArray (A ++ p :: B).length) := by
      rw [h5, ← hW4, World.putObj_heap_same (Array.getElem?_eq_some_iff.1 hm3).1]
    exact look_some hm5 hp hno rfl
  · rw [← hW4, ← hW3]
    exact ⟨rfl, rfl, rfl, by simp, fun k _ hk => (World.putObj_heap_other (fun e => hk (by rw [e]))).trans (World.putObj_heap_other (fun e => hk (by rw [e])))⟩
theorem look_new {W : World} {M : Nat} {ps : List Plc} {p : Plc} (hm : mapAt W M (ps ++ [p])) (hp : wfP p) (hn : p ∉ ps) : (Instr.lookup 121 (.map (some M)) (plcV p) false).run Try.prog W = .ok (.int .i64 1) W := by
  have hno : ∀ e ∈ esFrom 0 ps, ∃ q, e.key = plcV q ∧ q ≠ p := fun e he => by
    obtain ⟨⟨q, hq, hk⟩, _⟩ := esFrom_mem he
    exact ⟨q, hk, fun h => hn (by rw [← h]; exact hq)⟩
  unfold mapAt at hm
  rw [esFrom_app] at hm
  exact look_some hm hp hno rfl
end Go.Proofs.Ytnfknkihiapgiaa.bf
