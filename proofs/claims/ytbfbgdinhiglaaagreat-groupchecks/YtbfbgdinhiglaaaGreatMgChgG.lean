/- Several texts in one: ChgMore. -/
import Derived.Test.YtbfbgdinhiglaaaGreatMgChgF
/- The document's more: a row n times more, in a view that is one's own. -/
namespace Go.Proofs.YtbfbgdinhiglaaaGreat.ch
open Go.ChangeShapes Go.WideShapes Go.ChangeAt Go.RowKit Go.Maps Go.WideMaps
open vl
set_option linter.unusedVariables false
set_option linter.unusedSimpArgs false

theorem MV_put {w3 w4 : World} {base g cap n c : Nat} {A B : PL} {y : List Value} {ad : Option Addr} {r : List Cel} {m : Int} (hlow : base ≤ w3.heap.size) (hn : A.length + B.length = n) (hy : y.length = 2)
    (hown : w3.ownsRow base 71 2 (.slice (some ⟨g, 0, none⟩) (n + 1) cap) (n + 1) (flatP A ++ y ++ flatP B)) (hrows : ∀ p ∈ A ++ B, rowOne w3 (.slice (some ⟨g, 0, none⟩) (n + 1) cap) p)
    (hb : Below w3.heap.size w3 w4) (hov : ownV w4 w3.heap.size (.slice ad r.length c) r) :
    MV ((w4.setCell ⟨g, A.length * 2, none⟩ (.slice ad r.length c)).setCell ⟨g, A.length * 2 + 1, none⟩ (.int .i64 m)) base (.slice (some ⟨g, 0, none⟩) (n + 1) cap) (A ++ (.slice ad r.length c, ⟨r, m⟩) :: B) := by
  have hown4 := own_below hown hb
  have hglt := own_lt hown (g := g) rfl
  have h1 := own_set hown4 (A.length * 2) (by omega) (.slice ad r.length c)
  have h2 := own_set h1 (A.length * 2 + 1) (by omega) (.int .i64 m)
  have hlA := flatP_len A
  have e : ((flatP A ++ y ++ flatP B).set (A.length * 2) (.slice ad r.length c)).set (A.length * 2 + 1) (.int .i64 m) = flatP (A ++ (.slice ad r.length c, ⟨r, m⟩) :: B) := by
    rw [flatP_app, flatP_cons]
    match y, hy with
    | [y0, y1], _ =>
      rw [List.append_assoc, List.set_append_right _ _ (by omega), List.set_append_right _ _ (by omega), show A.length * 2 - (flatP A).length = 0 by omega, show A.length * 2 + 1 - (flatP A).length = 1 by omega]
      rfl
  rw [e] at h2
  have hs4 : w3.heap.size ≤ w4.heap.size := hb.size
  have hblk : ∀ b, b ≠ g → ((w4.setCell ⟨g, A.length * 2, none⟩ (.slice ad r.length c)).setCell ⟨g, A.length * 2 + 1, none⟩ (.int .i64 m)).heap[b]? = w4.heap[b]? := fun b hne => by
    rw [Below.heap_setCell _ _ _ b hne, Below.heap_setCell _ _ _ b hne]
  have hsz : ((w4.setCell ⟨g, A.length * 2, none⟩ (.slice ad r.length c)).setCell ⟨g, A.length * 2 + 1, none⟩ (.int .i64 m)).heap.size = w4.heap.size := by simp
  refine ⟨by omega, by rw [show (A ++ (Value.slice ad r.length c, (⟨r, m⟩ : Cnt)) :: B).length = n + 1 by simp; omega]; exact h2, ?_⟩
  have hold : ∀ p ∈ A ++ B, rowOne ((w4.setCell ⟨g, A.length * 2, none⟩ (.slice ad r.length c)).setCell ⟨g, A.length * 2 + 1, none⟩ (.int .i64 m)) (.slice (some ⟨g, 0, none⟩) (n + 1) cap) p := fun p hp =>
    rowOne_keep (hrows p hp) (fun b hlt hne => by
      have hbg : b ≠ g := fun e => hne (by rw [e]; rfl)
      rw [hblk b hbg]; exact hb.block b hlt) (by omega) (fun b _ k => k)
  intro p hp
  rcases List.mem_append.1 hp with h | h
  · exact hold p (List.mem_append.2 (.inl h))
  · rcases List.mem_cons.1 h with h | h
    · subst h
      refine ⟨ad, c, rfl, ?_, ?_⟩
      · refine rowAt_block (cap := c) (ownV_row hov) (fun b hbk hlt => hblk b (fun e => ?_))
        have := own_lt hov hbk
        omega
      · intro b hbk
        have := own_lt hov hbk
        refine ⟨fun e => ?_, by omega⟩
        have hbg : g = b := by cases e; rfl
        omega
    · exact hold p (List.mem_append.2 (.inr h))

theorem step_cut {ops : Array Oper} {o : Oper} {a : Act} {w w' : World} {K : Act → World → Prop} {Q : Exit → Act → World → Prop} {E : Prop} (hgd : o.guard = none) (s x : Operand)
    (hop : o.op = .call { callee := .builtin .append, args := #[s, x], argTypes := #[27, 27] }) (vs vx v' : Value) (hs : a.eval s = vs) (hx : a.eval x = vx)
    (hrun : (Builtin.append_ #[27, 27] o.type #[vs, vx]).run Tryz.prog w = .ok v' w') (h : K (a.put o.dst v') w') :
    if Region.wanted o (yielded ops a.tmps) = true then Oper.wp Tryz.prog o a w K Q else E := by
  rw [if_pos (by simp [Region.wanted, hgd])]
  unfold Oper.wp
  simp [execOp, hop, resolve, invoke, builtin, hs, hx, hrun, Result.andThen]
  exact h
theorem step_cpy {ops : Array Oper} {o : Oper} {a : Act} {w w' : World} {K : Act → World → Prop} {Q : Exit → Act → World → Prop} {E : Prop} (hgd : o.guard = none) (s x : Operand)
    (hop : o.op = .call { callee := .builtin .copy, args := #[s, x], argTypes := #[27, 27] }) (vs vx v' : Value) (hs : a.eval s = vs) (hx : a.eval x = vx)
    (hrun : (Builtin.copy_ #[27, 27] o.type #[vs, vx]).run Tryz.prog w = .ok v' w') (h : K (a.put o.dst v') w') :
    if Region.wanted o (yielded ops a.tmps) = true then Oper.wp Tryz.prog o a w K Q else E := by
  rw [if_pos (by simp [Region.wanted, hgd])]
  unfold Oper.wp
  simp [execOp, hop, resolve, invoke, builtin, hs, hx, hrun, Result.andThen]
  exact h
theorem sizeCt (w : World) : (sizeOf 71).run Tryz.prog w = .ok 2 w := by kernel_rfl
theorem elemCt : Tryz.prog.elem 27 = 71 := by kernel_rfl
theorem undCt : Tryz.prog.underlying 27 = some (.slice (Tryz.prog.elem 27)) := by rw [elemCt]; exact Tryz.underlying27
theorem front_ct (g n cap k : Nat) (hk : k ≤ cap) (w : World) : (Instr.sliceAt 27 (.slice (some ⟨g, 0, none⟩) n cap) none (some (.int .i64 k)) none).run Tryz.prog w = .ok (.slice (some ⟨g, 0, none⟩) k cap) w := by
  rw [run_sliceAt_slice (t := 27) (h := undCt), run_slice_h (t := 27) (ht := undCt) (h0 := by omega) (h2 := by omega), elemCt, sizeCt]
  simp [Result.andThen, sliced]
  intro _; rfl
theorem back_ct (g n cap k : Nat) (hk : k ≤ n) (hn : n ≤ cap) : ∃ a2 : Addr, (∀ w, (Instr.sliceAt 27 (.slice (some ⟨g, 0, none⟩) n cap) (some (.int .i64 k)) none none).run Tryz.prog w = .ok (.slice (some a2) (n - k) (cap - k)) w) ∧ (k < n → a2 = ⟨g, k * 2, none⟩) := by
  refine ⟨if cap = k then ⟨g, 0, none⟩ else ⟨g, k * 2, none⟩, ?_, fun h => by rw [if_neg (by omega)]⟩
  intro w
  rw [run_sliceAt_slice (t := 27) (h := undCt), run_slice_l (t := 27) (ht := undCt) (h0 := by omega) (h1 := by omega), elemCt, sizeCt]
  simp [Result.andThen, sliced]
  split
  · rfl
  · simp [Addr.add]
    omega

def moreRes (base : Nat) (L : PL) (r : List Cel) (n : Int) (e : Ending) (w' : World) : Prop :=
  (addE (kvP L) (encR r) n ≠ 0 ∧ ∃ v', e = .returned (.tuple #[v', .int .i64 (addE (kvP L) (encR r) n)])) ∨
  (addE (kvP L) (encR r) n = 0 ∧ ∃ v' L', kvP L' = addV (kvP L) (encR r) n ∧ (∀ p ∈ L', rowOk p.2.r) ∧ e = .returned (.tuple #[v', .int .i64 0]) ∧ MV w' base v' L')

theorem ret_more {v : Value} {a b : Int} (h : a = b) : Ending.returned (.tuple #[v, .int .i64 a]) = .returned (.tuple #[v, .int .i64 b]) := by rw [h]
/-- what add answers where the row stands there, and where it doesn't -/
theorem addE_is {A B : KV} {k : List UInt8} {m n : Int} (hA : ∀ p ∈ A, bytesBefore p.1 k = true) (hm : 1 ≤ m) : addE (A ++ (k, m) :: B) k n = if m + n < 0 then 9 else if 1073741824 < m + n then 2 else 0 := by
  unfold addE
  rw [get_mid hA]
  split
  · rfl
  · split
    · rfl
    · split
      · rfl
      · rw [if_neg (by omega)]
theorem addE_new {A B : KV} {k : List UInt8} {n : Int} (hA : ∀ p ∈ A, bytesBefore p.1 k = true) (hB : ∀ p ∈ B, bytesBefore k p.1 = true) (hn : n ≤ 1073741824) : addE (A ++ B) k n = if n < 0 then 9 else if n = 0 then 0 else if (A ++ B).length = 4096 then 2 else 0 := by
  unfold addE
  rw [get_new hA hB, Int.zero_add]
  split
  · rfl
  · rw [if_neg (by omega)]
    split
    · rfl
    · by_cases e : (A ++ B).length = 4096
      · rw [if_pos ⟨rfl, e⟩, if_pos e]
      · rw [if_neg (fun h => e h.2), if_neg e]
theorem addV_cut {A B : KV} {k : List UInt8} {m n : Int} (hA : ∀ p ∈ A, bytesBefore p.1 k = true) (hB : ∀ p ∈ B, bytesBefore k p.1 = true) (h : m + n = 0) : addV (A ++ (k, m) :: B) k n = A ++ B := by
  unfold addV
  rw [get_mid hA, if_neg (by omega), if_neg (by omega), if_pos h, del_mid hA hB]
theorem addV_set {A B : KV} {k : List UInt8} {m n : Int} (hA : ∀ p ∈ A, bytesBefore p.1 k = true) (hB : ∀ p ∈ B, bytesBefore k p.1 = true) (hm : 1 ≤ m) (h1 : 0 < m + n) (h2 : m + n ≤ 1073741824) : addV (A ++ (k, m) :: B) k n = A ++ (k, m + n) :: B := by
  unfold addV
  rw [get_mid hA, if_neg (by omega), if_neg (by omega), if_neg (by omega), if_neg (by omega), put_mid hA hB]
theorem addV_none {A B : KV} {k : List UInt8} (hA : ∀ p ∈ A, bytesBefore p.1 k = true) (hB : ∀ p ∈ B, bytesBefore k p.1 = true) : addV (A ++ B) k 0 = A ++ B := by
  unfold addV
  rw [get_new hA hB, if_neg (by omega), if_neg (by omega), if_pos (by omega), del_nonek (fun p hp => by
    rcases List.mem_append.1 hp with h | h
    · exact ne_low hA p h
    · exact ne_up hB p h)]
theorem addV_new {A B : KV} {k : List UInt8} {n : Int} (hA : ∀ p ∈ A, bytesBefore p.1 k = true) (hB : ∀ p ∈ B, bytesBefore k p.1 = true) (h1 : 0 < n) (h2 : n ≤ 1073741824) (h3 : (A ++ B).length ≠ 4096) : addV (A ++ B) k n = A ++ (k, n) :: B := by
  unfold addV
  rw [get_new hA hB, Int.zero_add, if_neg (by omega), if_neg (by omega), if_neg (by omega), if_neg (fun h => h3 h.2), put_new hA hB]

set_option maxRecDepth 100000 in
set_option maxHeartbeats 8000000 in
theorem rmore_any (c : Option Addr) (cc : Nat) (w0 : World) (v : Value) (L : PL) (r : List Cel) (n : Int) (w : World) (h : MV w w0.heap.size v L) (ho : viewOk (outOf L)) (hw : wfView (outOf L)) (hr : vl.rowAt w0 c r) (hb0 : Below w0.heap.size w0 w) (hok : rowOk r) (n1 : -1073741824 ≤ n) (n2 : n ≤ 1073741824) :
    Calls Tryz.prog 35 #[v, .slice c r.length cc, .int .i64 n] w fun e w' => moreRes w0.heap.size L r n e w' ∧ Below w0.heap.size w0 w' := by
  obtain ⟨ad, cap, hv, hg⟩ := MV_len h
  subst hv
  have KP := place_any ad c cap cc (outOf L) r w (MV_view h) hw ho (rowAt_below hr hb0) hok
  have HROW : Hid (∀ p ∈ L, rowOk p.2.r) := fun p hp => view_rows hw ho p.2 (List.mem_map.2 ⟨p, hp, rfl⟩)
  have HCNT : Hid (∀ p ∈ L, 1 ≤ p.2.n ∧ p.2.n ≤ 1073741824) := fun p hp => (view_good hw ho).cnt (encR p.2.r, p.2.n) (List.mem_map.2 ⟨p.2, List.mem_map.2 ⟨p, hp, rfl⟩, rfl⟩)
  have HR : Hid (vl.rowAt w0 c r) := hr
  have HOK : Hid (rowOk r) := hok
  have HMV : Hid (MV w w0.heap.size (.slice ad L.length cap) L) := h
  have hl4 : L.length ≤ 4096 := by have := ho.1; rw [out_len] at this; exact this
  have hr8 := hok.1
  rw [out_len] at KP
  clear h ho hw hr hok
  obtain ⟨ln, hln⟩ : ∃ z, L.length = z := ⟨_, rfl⟩
  have HLN : Hid (L.length = ln) := hln
  obtain ⟨rl, hrl⟩ : ∃ z, r.length = z := ⟨_, rfl⟩
  have HRL : Hid (r.length = rl) := hrl
  rw [hln] at KP hl4 hg
  rw [hrl] at KP hr8
  rw [hln, hrl]
  clear hln hrl
  go_enter Tryz.func35, Tryz.ntmps35
  go_wp2_with fail
  refine KP.mono ?_
  rintro e w1 ⟨⟨i, hi, hlo, hcase⟩, hb1⟩
  have hw1 : Below w0.heap.size w0 w1 := hb0.trans (hb1.mono hb0.size)
  have HM1 : Hid (MV w1 w0.heap.size (.slice ad L.length cap) L) := MV_below HMV.out hb1
  rw [out_len, HLN.out] at hi
  have HLO : Hid (∀ p ∈ kvP (L.take i), bytesBefore p.1 (encR r) = true) := low_take (by rw [HLN.out]; exact hi) hlo
  rcases hcase with ⟨hil, hrow, hup, rfl⟩ | ⟨hup, rfl⟩
  · rw [out_len, HLN.out] at hil
    have hiL : i < L.length := by rw [HLN.out]; exact hil
    obtain ⟨g, rfl⟩ := hg (by omega)
    have HUP : Hid (∀ p ∈ kvP (L.drop (i + 1)), bytesBefore (encR r) p.1 = true) := up_drop hup
    have hsp := split_at L i hiL
    have hpr : L[i].2.r = r := by rw [← hrow, out_at L i _ (List.getElem?_eq_getElem hiL)]
    have hcb := HCNT.out L[i] (List.getElem_mem hiL)
    have hcell := World.ownsRow.cells HM1.out.own (g := g) rfl (i * 2 + 1) _ (flatP_at L i _ (List.getElem?_eq_getElem hiL)).2
    rw [addr_add, Nat.zero_add] at hcell
    have hfz := own_frozen HM1.out.own (i * 2 + 1)
    have HAL : Hid ((L.take i).length = i) := by show (L.take i).length = i; rw [List.length_take]; omega
    have HBL : Hid ((L.drop (i + 1)).length = ln - (i + 1)) := by show (L.drop (i + 1)).length = ln - (i + 1); rw [List.length_drop, HLN.out]
    obtain ⟨p, hp⟩ : ∃ z, L[i] = z := ⟨_, rfl⟩
    rw [hp] at hsp hpr hcb hcell
    have HSP : Hid (L = L.take i ++ p :: L.drop (i + 1)) := hsp
    have HKV : Hid (kvP L = kvP (L.take i) ++ (encR r, p.2.n) :: kvP (L.drop (i + 1))) := by
      exact (congrArg kvP hsp).trans (by rw [kvP_app, kvP_cons, hpr])
    have HPR : Hid (p.2.r = r) := hpr
    have hcapl : ln ≤ cap := by
      rcases HM1.out.own.2 with ⟨hv, _⟩ | ⟨_, _, _, hv, _, _, h2, _⟩
      · cases hv
      · injection hv with _ _ e
        rw [e, ← HLN.out]; exact h2
    obtain ⟨m, hm⟩ : ∃ z, p.2.n = z := ⟨_, rfl⟩
    have HMN : Hid (p.2.n = m) := hm
    rw [hm] at hcb hcell HKV
    have HAE : Hid (addE (kvP L) (encR r) n = if m + n < 0 then 9 else if 1073741824 < m + n then 2 else 0) := by
      show addE (kvP L) (encR r) n = _
      rw [HKV.out]; exact addE_is HLO.out hcb.1
    clear hsp hpr hrow hup hp hm hg hlo
    have i1 : (0 : Int) ≤ (i : Int) := by omega
    have i2 : (i : Int) < (ln : Int) := by omega
    have hws : IntKind.i64.wrap (m + n) = m + n := by rw [wrap_is]; omega
    by_cases c1 : m + n < 0
    · have HE : Hid (addE (kvP L) (encR r) n = 9) := by show _ = _; rw [HAE.out, if_pos c1]
      go_wp2
      go_ret2
      exact ⟨.inl ⟨by rw [HE.out]; decide, _, ret_more HE.out.symm⟩, hw1⟩
    · by_cases c2 : 1073741824 < m + n
      · have HE : Hid (addE (kvP L) (encR r) n = 2) := by show _ = _; rw [HAE.out, if_neg c1, if_pos c2]
        go_wp2
        go_ret2
        exact ⟨.inl ⟨by rw [HE.out]; decide, _, ret_more HE.out.symm⟩, hw1⟩
      · have HE : Hid (addE (kvP L) (encR r) n = 0) := by show _ = _; rw [HAE.out, if_neg c1, if_neg c2]
        by_cases c3 : m + n = 0
        · have c3' : (m + n == 0) = true := by rw [beq_iff_eq]; exact c3
          have HC3 : Hid (m + n = 0) := c3
          have hf1 := front_ct g ln cap i (by omega)
          obtain ⟨a2, hf2n, ha2⟩ := back_ct g ln cap (i + 1) (by omega) hcapl
          have hf2 : ∀ w, (Instr.sliceAt 27 (.slice (some ⟨g, 0, none⟩) ln cap) (some (.int .i64 ((i : Int) + 1))) none none).run Tryz.prog w = .ok (.slice (some a2) (ln - (i + 1)) (cap - (i + 1))) w := hf2n
          clear hf2n
          have hwi : IntKind.i64.wrap ((i : Int) + 1) = (i : Int) + 1 := by rw [wrap_is]; omega
          have HMS : Hid (MV w1 w0.heap.size (.slice (some ⟨g, 0, none⟩) ln cap) (L.take i ++ p :: L.drop (i + 1))) := by
            show MV _ _ _ _
            rw [← HSP.out]
            have h := HM1.out
            rw [HLN.out] at h
            exact h
          have hcut := fun ty => MV_cut (w := w1.drew) (base := w0.heap.size) (g := g) (cap := cap) (n := ln) (A := L.take i) (B := L.drop (i + 1)) (p := p) (MV_below HMS.out (Below.refl _ _).drew) (by rw [← HSP.out, HLN.out]) (by omega) a2 (cap - (i + 1)) (fun hB => by rw [HAL.out]; exact ha2 (by rw [HBL.out] at hB; omega)) ty
          rw [HAL.out, HBL.out] at hcut
          have HCUT : Hid (∀ ty, ∃ v' w', (Builtin.append_ #[27, 27] ty #[.slice (some ⟨g, 0, none⟩) i cap, .slice (some a2) (ln - (i + 1)) (cap - (i + 1))]).run Tryz.prog w1.drew = .ok v' w' ∧ MV w' w0.heap.size v' (L.take i ++ L.drop (i + 1)) ∧ Below w0.heap.size w1.drew w') := hcut
          clear c3 hcut ha2
          go_wp2
          go_region_law (first
            | (obtain ⟨v', w', hrun, hmv, hbw⟩ := HCUT.out 27; refine step_cut (by rfl) (.tmp 58) (.tmp 62) (by rfl) (.slice (some ⟨g, 0, none⟩) i cap) (.slice (some a2) (ln - (i + 1)) (cap - (i + 1))) v' (by simp [Act.eval, Act.put]) (by simp [Act.eval, Act.put]) hrun ?_))
          all_goals
            go_wp2
            go_ret2
            exact ⟨.inr ⟨HE.out, _, _, by rw [HKV.out, addV_cut HLO.out HUP.out HC3.out, kvP_app], fun q hq => HROW.out q (by
              rcases List.mem_append.1 hq with h | h
              · exact List.mem_of_mem_take h
              · exact List.mem_of_mem_drop h), rfl, hmv⟩, hw1.drew.trans hbw⟩
        · have c3' : (m + n == 0) = false := by rw [beq_eq_false_iff_ne]; exact c3
          have HMS : Hid (MV (w1.setCell ⟨g, i * 2 + 1, none⟩ (.int .i64 (m + n))) w0.heap.size (.slice (some ⟨g, 0, none⟩) ln cap) (L.take i ++ (p.1, ⟨p.2.r, m + n⟩) :: L.drop (i + 1))) := by
            show MV _ _ _ _
            have h := MV_set (w := w1) (base := w0.heap.size) (g := g) (cap := cap) (n := ln) (A := L.take i) (B := L.drop (i + 1)) (p := p) (m + n) (by
              rw [← HSP.out]
              have h := HM1.out
              rw [HLN.out] at h
              exact h) (by rw [← HSP.out, HLN.out])
            rw [HAL.out] at h
            exact h
          have hgb := own_lt HM1.out.own (g := g) rfl
          go_wp2
          go_ret2
          exact ⟨.inr ⟨HE.out, _, _, by rw [HKV.out, addV_set HLO.out HUP.out hcb.1 (by omega) (by omega), kvP_app, kvP_cons, HPR.out], fun q hq => (by
            rcases List.mem_append.1 hq with h | h
            · exact HROW.out q (List.mem_of_mem_take h)
            · rcases List.mem_cons.1 h with h | h
              · rw [h]; show rowOk p.2.r; rw [HPR.out]; exact HOK.out
              · exact HROW.out q (List.mem_of_mem_drop h)), rfl, HMS.out⟩, hw1.setCell hgb.1 _⟩
  · have HUP : Hid (∀ p ∈ kvP (L.drop i), bytesBefore (encR r) p.1 = true) := up_drop hup
    have HKV : Hid (kvP L = kvP (L.take i) ++ kvP (L.drop i)) := by show kvP L = _; rw [← kvP_app, List.take_append_drop]
    have HKL : Hid ((kvP (L.take i) ++ kvP (L.drop i)).length = ln) := by show _ = _; rw [← HKV.out, kvP_len, HLN.out]
    have HAL : Hid ((L.take i).length = i) := by show (L.take i).length = i; rw [List.length_take, HLN.out]; omega
    have HAE : Hid (addE (kvP L) (encR r) n = if n < 0 then 9 else if n = 0 then 0 else if ln = 4096 then 2 else 0) := by
      show addE (kvP L) (encR r) n = _
      rw [HKV.out, addE_new HLO.out HUP.out n2, HKL.out]
    clear hup hg hlo
    have hwn : IntKind.i64.wrap n = n := by rw [wrap_is]; omega
    have c2f : ¬ 1073741824 < n := by omega
    rw [HLN.out] at HM1
    by_cases c1 : n < 0
    · have HE : Hid (addE (kvP L) (encR r) n = 9) := by show _ = _; rw [HAE.out, if_pos c1]
      go_wp2
      go_ret2
      exact ⟨.inl ⟨by rw [HE.out]; decide, _, ret_more HE.out.symm⟩, hw1⟩
    · by_cases c2 : n = 0
      · subst c2
        have HE : Hid (addE (kvP L) (encR r) 0 = 0) := by show _ = _; rw [HAE.out, if_neg c1, if_pos rfl]
        go_wp2
        go_ret2
        exact ⟨.inr ⟨HE.out, _, L, by rw [HKV.out, addV_none HLO.out HUP.out], HROW.out, rfl, HM1.out⟩, hw1⟩
      · have c3 : 0 < n := by omega
        have c2' : (n == 0) = false := by rw [beq_eq_false_iff_ne]; exact c2
        by_cases c4 : ln = 4096
        · have HE : Hid (addE (kvP L) (encR r) n = 2) := by show _ = _; rw [HAE.out, if_neg c1, if_neg c2, if_pos c4]
          subst c4
          go_wp2
          go_ret2
          exact ⟨.inl ⟨by rw [HE.out]; decide, _, ret_more HE.out.symm⟩, hw1⟩
        · have HE : Hid (addE (kvP L) (encR r) n = 0) := by show _ = _; rw [HAE.out, if_neg c1, if_neg c2, if_neg c4]
          have c4' : ((ln : Int) == 4096) = false := by rw [beq_eq_false_iff_ne]; omega
          obtain ⟨i0, hii, hz0, hz1, hz2⟩ := info_parts infoC
          have HI : Hid (Tryz.prog.info? 71 = some i0 ∧ i0.zero = some (.agg #[.slice none 0 0, .int .i64 0]) ∧ i0.size = 2 ∧ i0.bytes = 32) := ⟨hii, hz0, hz1, hz2⟩
          clear hii hz0 hz1 hz2
          have HON : Hid (w1.ownsRow w0.heap.size 71 2 (.slice ad ln cap) ln (flatP L)) := by
            have h := HM1.out.own
            rw [HLN.out] at h
            exact h
          have hlow1 := HM1.out.low
          have hwi : IntKind.i64.wrap ((i : Int) + 1) = (i : Int) + 1 := by rw [wrap_is]; omega
          go_wp2_with (at_builtin; refine wpList_append_lies _ rfl (.tmp 76) (.tmp 78) 27 rfl w0.heap.size 71 i0 (.agg #[.slice none 0 0, .int .i64 0]) 2 32 Tryz.underlying27 HI.out.1 HI.out.2.1 HI.out.2.2.1 HI.out.2.2.2 rfl (by decide) (.slice ad ln cap) ln (flatP L) rfl (World.ownsRow.alloc HON.out _) ⟨w1.heap.size, 0, none⟩ 1 1 [.slice none 0 0, .int .i64 0] rfl rfl (cell_two_new _ _ _ _) (by intro u hu; simp at hu; rcases hu with rfl | rfl <;> rfl) (by decide) (by unfold maxLen; omega) (by omega) (by simp; omega) (w1.heap.size + 1) (by simp) ?_; intro g cap2 w2 hown2 hgrow2 hat2 hlt2; have HO2 : Hid (w2.ownsRow w0.heap.size 71 2 (.slice (some ⟨g, 0, none⟩) (ln + 1) cap2) (ln + 1) (flatP L ++ [.slice none 0 0, .int .i64 0])) := hown2)
          have hcap2 : ln + 1 ≤ cap2 := by
            rcases HO2.out.2 with ⟨hv, _⟩ | ⟨_, _, _, hv, _, _, h2, _⟩
            · cases hv
            · injection hv with _ _ e
              rw [e]; exact h2
          obtain ⟨bl, hbl⟩ : ∃ z, ln - i = z := ⟨_, rfl⟩
          have HBL : Hid ((L.drop i).length = bl) := by show _ = _; rw [List.length_drop, HLN.out]; exact hbl
          obtain ⟨d2, hf2n, hd2⟩ := back_ct g (ln + 1) cap2 (i + 1) (by omega) hcap2
          obtain ⟨s2, hf3n, hs2⟩ := back_ct g (ln + 1) cap2 i (by omega) hcap2
          rw [show ln + 1 - (i + 1) = bl by omega] at hf2n
          rw [show ln + 1 - i = bl + 1 by omega] at hf3n
          have hf2 : ∀ w, (Instr.sliceAt 27 (.slice (some ⟨g, 0, none⟩) (ln + 1) cap2) (some (.int .i64 ((i : Int) + 1))) none none).run Tryz.prog w = .ok (.slice (some d2) bl (cap2 - (i + 1))) w := hf2n
          have hf3 : ∀ w, (Instr.sliceAt 27 (.slice (some ⟨g, 0, none⟩) (ln + 1) cap2) (some (.int .i64 (i : Int))) none none).run Tryz.prog w = .ok (.slice (some s2) (bl + 1) (cap2 - i)) w := hf3n
          have hroom := fun ty => MV_room (w := w1) (w2 := w2.drew) (base := w0.heap.size) (g := g) (cap := cap2) (n := ln) (v := .slice ad ln cap) (A := L.take i) (B := L.drop i) (z := [.slice none 0 0, .int .i64 0]) (by rw [List.take_append_drop]; exact HM1.out) (by rw [List.take_append_drop, HLN.out]) (.cells #[.slice none 0 0, .int .i64 0] 71) rfl (by rw [List.take_append_drop]; exact HO2.out.drew) ⟨hgrow2.os, hgrow2.tape, hgrow2.output, hgrow2.size, hgrow2.block⟩ hat2 (some d2) (some s2) (cap2 - (i + 1)) (cap2 - i) (fun hB => by rw [HAL.out]; rw [HBL.out] at hB; exact congrArg some (hd2 (by omega))) (fun hB => by rw [HAL.out]; rw [HBL.out] at hB; exact congrArg some (hs2 (by omega))) ty
          rw [HBL.out] at hroom
          have HROOM : Hid (∀ ty, ∃ w3, (Builtin.copy_ #[27, 27] ty #[.slice (some d2) bl (cap2 - (i + 1)), .slice (some s2) (bl + 1) (cap2 - i)]).run Tryz.prog w2.drew = .ok (goInt bl) w3 ∧
            (∃ y, y.length = 2 ∧ w3.ownsRow w0.heap.size 71 2 (.slice (some ⟨g, 0, none⟩) (ln + 1) cap2) (ln + 1) (flatP (L.take i) ++ y ++ flatP (L.drop i))) ∧
            Below w0.heap.size w1 w3 ∧ (∀ p ∈ L.take i ++ L.drop i, rowOne w3 (.slice (some ⟨g, 0, none⟩) (ln + 1) cap2) p)) := hroom
          clear hroom hf2n hf3n hd2 hs2 hown2 hgrow2
          go_wp2
          go_region_law (first
            | (obtain ⟨w3, hrun, ⟨y, hy, hown3⟩, hb3, hrows3⟩ := HROOM.out 3; refine step_cpy (by rfl) (.tmp 83) (.tmp 86) (by rfl) (.slice (some d2) bl (cap2 - (i + 1))) (.slice (some s2) (bl + 1) (cap2 - i)) _ (by simp [Act.eval, Act.put]) (by simp [Act.eval, Act.put]) hrun ?_))
          all_goals
            have hw3 : Below w0.heap.size w0 w3 := hw1.trans hb3
            have hlow3 := hw3.size
            have HO3 : Hid (w3.ownsRow w0.heap.size 71 2 (.slice (some ⟨g, 0, none⟩) (ln + 1) cap2) (ln + 1) (flatP (L.take i) ++ y ++ flatP (L.drop i))) := hown3
            have HR3 : Hid (∀ p ∈ L.take i ++ L.drop i, rowOne w3 (.slice (some ⟨g, 0, none⟩) (ln + 1) cap2) p) := hrows3
            have KC : Hid (Calls Tryz.prog 65 #[.slice c rl cc] w3 fun e w' => (∃ ad c, e = .returned (.slice ad rl c) ∧ ownV w' w3.heap.size (.slice ad rl c) r) ∧ Below w3.heap.size w3 w') := by
              have h := copy_any c cc r w3 (rowAt_below HR.out hw3) (by rw [HRL.out]; omega)
              rw [HRL.out] at h; exact h
            clear hown3 hrows3
            have i1 : (0 : Int) ≤ (i : Int) := by omega
            have i2 : (i : Int) < (ln : Int) + 1 := by omega
            go_wp2_with fail
            refine KC.out.mono ?_
            rintro e w4 ⟨⟨ad4, cy, rfl, hov⟩, hb4⟩
            have ho4 := own_below HO3.out hb4
            have hlo4 := ho4.1
            obtain ⟨y0, y1, hyy⟩ : ∃ y0 y1, y = [y0, y1] := by
              match y, hy with
              | [y0, y1], _ => exact ⟨y0, y1, rfl⟩
            have hlA := flatP_len (L.take i)
            rw [HAL.out] at hlA
            have hc1 : w4.cell? ⟨g, i * 2, none⟩ = some y0 := by
              have hc := World.ownsRow.cells ho4 (g := g) rfl (i * 2) y0 (by
                rw [hyy, List.append_assoc, List.getElem?_append_right (by omega), show i * 2 - (flatP (L.take i)).length = 0 by omega]; rfl)
              rw [addr_add, Nat.zero_add] at hc
              exact hc
            have hc2 : w4.cell? ⟨g, i * 2 + 1, none⟩ = some y1 := by
              have hc := World.ownsRow.cells ho4 (g := g) rfl (i * 2 + 1) y1 (by
                rw [hyy, List.append_assoc, List.getElem?_append_right (by omega), show i * 2 + 1 - (flatP (L.take i)).length = 1 by omega]; rfl)
              rw [addr_add, Nat.zero_add] at hc
              exact hc
            have hz1 := own_frozen ho4 (i * 2)
            have hz2 := own_frozen ho4 (i * 2 + 1)
            have hgb := own_lt HO3.out (g := g) rfl
            have hput := MV_put (w3 := w3) (w4 := w4) (base := w0.heap.size) (g := g) (cap := cap2) (n := ln) (c := cy) (A := L.take i) (B := L.drop i) (y := y) (ad := ad4) (r := r) (m := n) hlow3 (by rw [HAL.out, HBL.out]; omega) hy HO3.out HR3.out hb4 (by rw [HRL.out]; exact hov)
            rw [HAL.out, HRL.out] at hput
            have HPUT : Hid (MV ((w4.setCell ⟨g, i * 2, none⟩ (.slice ad4 rl cy)).setCell ⟨g, i * 2 + 1, none⟩ (.int .i64 n)) w0.heap.size (.slice (some ⟨g, 0, none⟩) (ln + 1) cap2) (L.take i ++ (.slice ad4 rl cy, ⟨r, n⟩) :: L.drop i)) := hput
            clear hput hyy hy hlo4 ho4
            go_wp2
            go_ret2
            have hw4 := hw3.trans (hb4.mono hlow3)
            exact ⟨.inr ⟨HE.out, _, _, by rw [HKV.out, addV_new HLO.out HUP.out c3 n2 (by rw [HKL.out]; exact c4), kvP_app, kvP_cons], fun q hq => (by
              rcases List.mem_append.1 hq with h | h
              · exact HROW.out q (List.mem_of_mem_take h)
              · rcases List.mem_cons.1 h with h | h
                · rw [h]; exact HOK.out
                · exact HROW.out q (List.mem_of_mem_drop h)), rfl, HPUT.out⟩, (hw4.setCell hgb.1 _).setCell hgb.1 _⟩
end Go.Proofs.YtbfbgdinhiglaaaGreat.ch
