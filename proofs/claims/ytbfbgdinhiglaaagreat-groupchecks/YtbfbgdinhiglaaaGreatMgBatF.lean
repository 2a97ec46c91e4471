/- Several texts in one: BatMore. -/
import Derived.Test.YtbfbgdinhiglaaaGreatMgChgG
/- The document's more, of a row that lies anywhere but where the view lies. -/
namespace Go.Proofs.YtbfbgdinhiglaaaGreat.ch
open Go.ChangeShapes Go.WideShapes Go.ChangeAt Go.RowKit Go.Maps Go.WideMaps
open vl
set_option linter.unusedVariables false
set_option linter.unusedSimpArgs false
theorem rowAt_apart {w w' : World} {c : Option Addr} {r : List Cel} (h : vl.rowAt w c r) (hb : ∀ b o x, c = some ⟨b, o, x⟩ → b < w.heap.size → w'.heap[b]? = w.heap[b]?) : vl.rowAt w' c r := by
  intro i hi
  obtain ⟨b, o, e, x1, x2, x3⟩ := h i hi
  have hlt : b < w.heap.size := World.block_lt_of_cell? _ _ x1
  have hq := hb b o none e hlt
  exact ⟨b, o, e, (World.cell?_of_block (w := w) hq).trans x1, (World.cell?_of_block (w := w) hq).trans x2, (World.cell?_of_block (w := w) hq).trans x3⟩
/-- room for a row in between: behind an append of nothing much and a copy -/
theorem MV_room2 {w w2 : World} {base g cap n : Nat} {v : Value} {A B : PL} {z : List Value} (h : MV w base v (A ++ B)) (hn : (A ++ B).length = n) (o : Obj) (hz : z.length = 2)
    (hown2 : w2.ownsRow base 71 2 (.slice (some ⟨g, 0, none⟩) (n + 1) cap) (n + 1) (flatP (A ++ B) ++ z)) (hg2 : (w.alloc o).grownBy w2 v.ownBlock) (hat : v.ownBlock = some g ∨ g = w.heap.size + 1)
    (d2 s2 : Option Addr) (dc sc : Nat) (hd : 0 < B.length → d2 = some ⟨g, (A.length + 1) * 2, none⟩) (hs : 0 < B.length → s2 = some ⟨g, A.length * 2, none⟩) (ty : TypeId) :
    ∃ w3, (Builtin.copy_ #[27, 27] ty #[.slice d2 B.length dc, .slice s2 (B.length + 1) sc]).run Tryz.prog w2 = .ok (goInt B.length) w3 ∧
      (∃ y, y.length = 2 ∧ w3.ownsRow base 71 2 (.slice (some ⟨g, 0, none⟩) (n + 1) cap) (n + 1) (flatP A ++ y ++ flatP B)) ∧
      Below base w w3 ∧ (∀ p ∈ A ++ B, rowOne w3 (.slice (some ⟨g, 0, none⟩) (n + 1) cap) p) ∧ (∀ b, b < w.heap.size → v.ownBlock ≠ some b → w3.heap[b]? = w.heap[b]?) := by
  have hlow := h.low
  have hs2 : w.heap.size + 1 ≤ w2.heap.size := by have := hg2.size; simpa using this
  have hglt := own_lt hown2 (g := g) rfl
  have hnl : A.length + B.length = n := by rw [← hn, List.length_append]
  have hb2 : Below base w w2 := ((Below.refl _ _).alloc hlow o).grown hg2 (by simp; omega) (fun b hb => (own_lt h.own hb).1)
  have hblk2 : ∀ b, b < w.heap.size → v.ownBlock ≠ some b → w2.heap[b]? = w.heap[b]? := fun b hb ho => by
    rw [hg2.block b (by simp; omega) (fun e => ho e.symm)]
    exact Below.heap_alloc _ _ b hb
  have hvg : ∀ b, b < w.heap.size → v.ownBlock ≠ some b → (Value.slice (some ⟨g, 0, none⟩) (n + 1) cap).ownBlock ≠ some b := fun b hb hne e => by
    have hbg : g = b := by cases e; rfl
    rcases hat with h1 | h1
    · exact hne (by rw [← hbg]; exact h1)
    · omega
  have hmin : Nat.min (B.length + 1) B.length = B.length := Nat.min_eq_right (by omega)
  have hyl : ((flatP B ++ z).take 2).length = 2 := by rw [List.length_take, List.length_append, hz]; omega
  have hlA := flatP_len A
  have hlB := flatP_len B
  by_cases hB : 0 < B.length
  · have ed := hd hB
    have es := hs hB
    subst ed es
    rcases hown2.2 with ⟨hv, _⟩ | ⟨g', cap', cur, hv, h1, hg, h2, h3, h4, h5⟩
    · cases hv
    · injection hv with e1 e2 e3
      injection e1 with e1
      injection e1 with e1 _ _
      subst e1 e3
      have hcs : ∀ j u, (flatP B)[j]? = some u → w2.cell? ((⟨g, A.length * 2, none⟩ : Addr).add j) = some u := fun j u hu => by
        rw [add_at]
        have hc := World.ownsRow.cells hown2 (g := g) rfl (A.length * 2 + j) u (by
          have hj : j < (flatP B).length := by
            rcases Nat.lt_or_ge j (flatP B).length with h | h
            · exact h
            · rw [List.getElem?_eq_none h] at hu; cases hu
          rw [flatP_app, List.append_assoc, List.getElem?_append_right (by rw [flatP_len]; omega), flatP_len, show A.length * 2 + j - A.length * 2 = j by omega, List.getElem?_append_left hj]
          exact hu)
        rw [addr_add, Nat.zero_add] at hc
        exact hc
      have hone := flatP_one (L := B) (fun p hp => h.rows p (List.mem_append.2 (.inr hp)))
      have hfit : (A.length + 1) * 2 + (flatP B).length ≤ cur.size := by
        have : (n + 1) * 2 ≤ cap * 2 := Nat.mul_le_mul_right _ h2
        omega
      have hrun := run_copy2 ty g ((A.length + 1) * 2) B.length dc ⟨g, A.length * 2, none⟩ (B.length + 1) sc cur 71 (flatP B) hg (by rw [hmin, flatP_len]) hcs hfit hone
      rw [hmin] at hrun
      obtain ⟨S, hS⟩ : ∃ S, cur.toList = flatP A ++ (flatP B ++ z) ++ S := ⟨cur.toList.drop ((n + 1) * 2), by
        have e := List.take_append_drop ((n + 1) * 2) cur.toList
        rw [h5, flatP_app, List.append_assoc (flatP A) (flatP B) z] at e
        exact e.symm⟩
      have hnew : cur.toList.take ((A.length + 1) * 2) ++ flatP B ++ cur.toList.drop ((A.length + 1) * 2 + (flatP B).length) = (flatP A ++ (flatP B ++ z).take 2 ++ flatP B) ++ S := by
        have := copy_list (flatP A) (flatP B) z S hz
        rw [hS, show (A.length + 1) * 2 = (flatP A).length + 2 by omega]
        exact this
      rw [hnew] at hrun
      have hsz : cur.size = ((flatP A ++ (flatP B ++ z).take 2 ++ flatP B) ++ S).length := by
        rw [← Array.length_toList, hS]
        simp only [List.length_append, hyl, hz]
        omega
      refine ⟨_, hrun, ⟨(flatP B ++ z).take 2, hyl, ?_, .inr ⟨g, cap, _, rfl, h1, setRow_heap w2 g cur _ _ _ hg, h2, h3, ?_, ?_⟩⟩, ?_, ?_, ?_⟩
      · simp only [List.length_append, hyl]; omega
      · rw [List.size_toArray, ← hsz]; exact h4
      · rw [show (n + 1) * 2 = (flatP A ++ (flatP B ++ z).take 2 ++ flatP B).length by simp only [List.length_append, hyl]; omega]
        exact List.take_left
      · exact hb2.trans ⟨rfl, rfl, rfl, by simp [World.setRow], fun k hk => setRow_other w2 g k _ (by omega)⟩
      · intro p hp
        have hss : (w2.setRow g ((flatP A ++ (flatP B ++ z).take 2 ++ flatP B) ++ S).toArray).heap.size = w2.heap.size := by simp [World.setRow]
        refine rowOne_keep (h.rows p hp) (fun b hb hne => ?_) (by omega) hvg
        rw [setRow_other w2 g b _ (fun e => hvg b hb hne (by rw [e]; rfl))]
        exact hblk2 b hb hne
      · intro b hb hne
        rw [setRow_other w2 g b _ (fun e => hvg b hb hne (by rw [e]; rfl))]
        exact hblk2 b hb hne
  · have hB0 : B = [] := List.length_eq_zero_iff.1 (by omega)
    subst hB0
    have hrun := run_copy2_none (w := w2) ty d2 0 dc s2 1 sc rfl
    refine ⟨w2, hrun, ⟨z, hz, by rw [List.append_nil] at hown2; rw [show flatP ([] : PL) = [] from rfl, List.append_nil]; exact hown2⟩, hb2, ?_, hblk2⟩
    intro p hp
    exact rowOne_keep (h.rows p hp) hblk2 (by omega) hvg
/-- .. and each row lies where one lay, or from base on -/
def moreRes2 (base : Nat) (L : PL) (r : List Cel) (n : Int) (e : Ending) (w' : World) : Prop :=
  (addE (kvP L) (encR r) n ≠ 0 ∧ ∃ v', e = .returned (.tuple #[v', .int .i64 (addE (kvP L) (encR r) n)])) ∨
  (addE (kvP L) (encR r) n = 0 ∧ ∃ v' L', kvP L' = addV (kvP L) (encR r) n ∧ (∀ p ∈ L', rowOk p.2.r) ∧ e = .returned (.tuple #[v', .int .i64 0]) ∧ MV w' base v' L' ∧ ∀ q ∈ L', (∃ p ∈ L, q.1 = p.1) ∨ ∀ g, q.1.ownBlock = some g → base ≤ g)
set_option maxRecDepth 100000 in
set_option maxHeartbeats 8000000 in
theorem rmore_own (c : Option Addr) (cc : Nat) (base : Nat) (v : Value) (L : PL) (r : List Cel) (n : Int) (w : World) (h : MV w base v L) (ho : viewOk (outOf L)) (hw : wfView (outOf L)) (hr : vl.rowAt w c r) (hap : ∀ b o x, c = some ⟨b, o, x⟩ → v.ownBlock ≠ some b) (hok : rowOk r) (n1 : -1073741824 ≤ n) (n2 : n ≤ 1073741824) :
    Calls Tryz.prog 35 #[v, .slice c r.length cc, .int .i64 n] w fun e w' => moreRes2 base L r n e w' ∧ Below base w w' := by
  obtain ⟨ad, cap, hv, hg⟩ := MV_len h
  subst hv
  have KP := place_any ad c cap cc (outOf L) r w (MV_view h) hw ho hr hok
  have HROW : Hid (∀ p ∈ L, rowOk p.2.r) := fun p hp => view_rows hw ho p.2 (List.mem_map.2 ⟨p, hp, rfl⟩)
  have HCNT : Hid (∀ p ∈ L, 1 ≤ p.2.n ∧ p.2.n ≤ 1073741824) := fun p hp => (view_good hw ho).cnt (encR p.2.r, p.2.n) (List.mem_map.2 ⟨p.2, List.mem_map.2 ⟨p, hp, rfl⟩, rfl⟩)
  have HR : Hid (vl.rowAt w c r) := hr
  have HAP : Hid (∀ b o x, c = some ⟨b, o, x⟩ → (Value.slice ad L.length cap).ownBlock ≠ some b) := hap
  have hbas := h.low
  have HOK : Hid (rowOk r) := hok
  have HMV : Hid (MV w base (.slice ad L.length cap) L) := h
  have hl4 : L.length ≤ 4096 := by have := ho.1; rw [out_len] at this; exact this
  have hr8 := hok.1
  rw [out_len] at KP
  clear h ho hw hr hok hap
  obtain ⟨ln, hln⟩ : ∃ z, L.length = z := ⟨_, rfl⟩
  have HLN : Hid (L.length = ln) := hln
  obtain ⟨rl, hrl⟩ : ∃ z, r.length = z := ⟨_, rfl⟩
  have HRL : Hid (r.length = rl) := hrl
  rw [hln] at KP hl4 hg
  rw [hrl] at KP hr8
  rw [hln, hrl]
  clear hln hrl
  go_enter Tryz.func35, Tryz.ntmps35
  go_wp2_with fail
  refine KP.mono ?_
  rintro e w1 ⟨⟨i, hi, hlo, hcase⟩, hb1⟩
  have hw1 : Below base w w1 := hb1.mono hbas
  have HM1 : Hid (MV w1 base (.slice ad L.length cap) L) := MV_below HMV.out hb1
  rw [out_len, HLN.out] at hi
  have HLO : Hid (∀ p ∈ kvP (L.take i), bytesBefore p.1 (encR r) = true) := low_take (by rw [HLN.out]; exact hi) hlo
  rcases hcase with ⟨hil, hrow, hup, rfl⟩ | ⟨hup, rfl⟩
  · rw [out_len, HLN.out] at hil
    have hiL : i < L.length := by rw [HLN.out]; exact hil
    obtain ⟨g, rfl⟩ := hg (by omega)
    have HUP : Hid (∀ p ∈ kvP (L.drop (i + 1)), bytesBefore (encR r) p.1 = true) := up_drop hup
    have hsp := split_at L i hiL
    have hpr : L[i].2.r = r := by rw [← hrow, out_at L i _ (List.getElem?_eq_getElem hiL)]
    have hcb := HCNT.out L[i] (List.getElem_mem hiL)
    have hcell := World.ownsRow.cells HM1.out.own (g := g) rfl (i * 2 + 1) _ (flatP_at L i _ (List.getElem?_eq_getElem hiL)).2
    rw [addr_add, Nat.zero_add] at hcell
    have hfz := own_frozen HM1.out.own (i * 2 + 1)
    have HAL : Hid ((L.take i).length = i) := by show (L.take i).length = i; rw [List.length_take]; omega
    have HBL : Hid ((L.drop (i + 1)).length = ln - (i + 1)) := by show (L.drop (i + 1)).length = ln - (i + 1); rw [List.length_drop, HLN.out]
    obtain ⟨p, hp⟩ : ∃ z, L[i] = z := ⟨_, rfl⟩
    rw [hp] at hsp hpr hcb hcell
    have HSP : Hid (L = L.take i ++ p :: L.drop (i + 1)) := hsp
    have HKV : Hid (kvP L = kvP (L.take i) ++ (encR r, p.2.n) :: kvP (L.drop (i + 1))) := by
      exact (congrArg kvP hsp).trans (by rw [kvP_app, kvP_cons, hpr])
    have HPR : Hid (p.2.r = r) := hpr
    have hcapl : ln ≤ cap := by
      rcases HM1.out.own.2 with ⟨hv, _⟩ | ⟨_, _, _, hv, _, _, h2, _⟩
      · cases hv
      · injection hv with _ _ e
        rw [e, ← HLN.out]; exact h2
    obtain ⟨m, hm⟩ : ∃ z, p.2.n = z := ⟨_, rfl⟩
    have HMN : Hid (p.2.n = m) := hm
    rw [hm] at hcb hcell HKV
    have HAE : Hid (addE (kvP L) (encR r) n = if m + n < 0 then 9 else if 1073741824 < m + n then 2 else 0) := by
      show addE (kvP L) (encR r) n = _
      rw [HKV.out]; exact addE_is HLO.out hcb.1
    clear hsp hpr hrow hup hp hm hg hlo
    have i1 : (0 : Int) ≤ (i : Int) := by omega
    have i2 : (i : Int) < (ln : Int) := by omega
    have hws : IntKind.i64.wrap (m + n) = m + n := by rw [wrap_is]; omega
    by_cases c1 : m + n < 0
    · have HE : Hid (addE (kvP L) (encR r) n = 9) := by show _ = _; rw [HAE.out, if_pos c1]
      go_wp2
      go_ret2
      exact ⟨.inl ⟨by rw [HE.out]; decide, _, ret_more HE.out.symm⟩, hw1⟩
    · by_cases c2 : 1073741824 < m + n
      · have HE : Hid (addE (kvP L) (encR r) n = 2) := by show _ = _; rw [HAE.out, if_neg c1, if_pos c2]
        go_wp2
        go_ret2
        exact ⟨.inl ⟨by rw [HE.out]; decide, _, ret_more HE.out.symm⟩, hw1⟩
      · have HE : Hid (addE (kvP L) (encR r) n = 0) := by show _ = _; rw [HAE.out, if_neg c1, if_neg c2]
        by_cases c3 : m + n = 0
        · have c3' : (m + n == 0) = true := by rw [beq_iff_eq]; exact c3
          have HC3 : Hid (m + n = 0) := c3
          have hf1 := front_ct g ln cap i (by omega)
          obtain ⟨a2, hf2n, ha2⟩ := back_ct g ln cap (i + 1) (by omega) hcapl
          have hf2 : ∀ w, (Instr.sliceAt 27 (.slice (some ⟨g, 0, none⟩) ln cap) (some (.int .i64 ((i : Int) + 1))) none none).run Tryz.prog w = .ok (.slice (some a2) (ln - (i + 1)) (cap - (i + 1))) w := hf2n
          clear hf2n
          have hwi : IntKind.i64.wrap ((i : Int) + 1) = (i : Int) + 1 := by rw [wrap_is]; omega
          have HMS : Hid (MV w1 base (.slice (some ⟨g, 0, none⟩) ln cap) (L.take i ++ p :: L.drop (i + 1))) := by
            show MV _ _ _ _
            rw [← HSP.out]
            have h := HM1.out
            rw [HLN.out] at h
            exact h
          have hcut := fun ty => MV_cut (w := w1.drew) (base := base) (g := g) (cap := cap) (n := ln) (A := L.take i) (B := L.drop (i + 1)) (p := p) (MV_below HMS.out (Below.refl _ _).drew) (by rw [← HSP.out, HLN.out]) (by omega) a2 (cap - (i + 1)) (fun hB => by rw [HAL.out]; exact ha2 (by rw [HBL.out] at hB; omega)) ty
          rw [HAL.out, HBL.out] at hcut
          have HCUT : Hid (∀ ty, ∃ v' w', (Builtin.append_ #[27, 27] ty #[.slice (some ⟨g, 0, none⟩) i cap, .slice (some a2) (ln - (i + 1)) (cap - (i + 1))]).run Tryz.prog w1.drew = .ok v' w' ∧ MV w' base v' (L.take i ++ L.drop (i + 1)) ∧ Below base w1.drew w') := hcut
          clear c3 hcut ha2
          go_wp2
          go_region_law (first
            | (obtain ⟨v', w', hrun, hmv, hbw⟩ := HCUT.out 27; refine step_cut (by rfl) (.tmp 58) (.tmp 62) (by rfl) (.slice (some ⟨g, 0, none⟩) i cap) (.slice (some a2) (ln - (i + 1)) (cap - (i + 1))) v' (by simp [Act.eval, Act.put]) (by simp [Act.eval, Act.put]) hrun ?_))
          all_goals
            go_wp2
            go_ret2
            exact ⟨.inr ⟨HE.out, _, _, by rw [HKV.out, addV_cut HLO.out HUP.out HC3.out, kvP_app], fun q hq => HROW.out q (by
              rcases List.mem_append.1 hq with h | h
              · exact List.mem_of_mem_take h
              · exact List.mem_of_mem_drop h), rfl, hmv, fun q hq => .inl ⟨q, (by
              rcases List.mem_append.1 hq with h | h
              · exact List.mem_of_mem_take h
              · exact List.mem_of_mem_drop h), rfl⟩⟩, hw1.drew.trans hbw⟩
        · have c3' : (m + n == 0) = false := by rw [beq_eq_false_iff_ne]; exact c3
          have HMS : Hid (MV (w1.setCell ⟨g, i * 2 + 1, none⟩ (.int .i64 (m + n))) base (.slice (some ⟨g, 0, none⟩) ln cap) (L.take i ++ (p.1, ⟨p.2.r, m + n⟩) :: L.drop (i + 1))) := by
            show MV _ _ _ _
            have h := MV_set (w := w1) (base := base) (g := g) (cap := cap) (n := ln) (A := L.take i) (B := L.drop (i + 1)) (p := p) (m + n) (by
              rw [← HSP.out]
              have h := HM1.out
              rw [HLN.out] at h
              exact h) (by rw [← HSP.out, HLN.out])
            rw [HAL.out] at h
            exact h
          have hgb := own_lt HM1.out.own (g := g) rfl
          go_wp2
          go_ret2
          exact ⟨.inr ⟨HE.out, _, _, by rw [HKV.out, addV_set HLO.out HUP.out hcb.1 (by omega) (by omega), kvP_app, kvP_cons, HPR.out], fun q hq => (by
            rcases List.mem_append.1 hq with h | h
            · exact HROW.out q (List.mem_of_mem_take h)
            · rcases List.mem_cons.1 h with h | h
              · rw [h]; show rowOk p.2.r; rw [HPR.out]; exact HOK.out
              · exact HROW.out q (List.mem_of_mem_drop h)), rfl, HMS.out, fun q hq => .inl (by
            rcases List.mem_append.1 hq with h | h
            · exact ⟨q, List.mem_of_mem_take h, rfl⟩
            · rcases List.mem_cons.1 h with h | h
              · exact ⟨p, (by rw [HSP.out]; exact List.mem_append.2 (.inr (List.mem_cons_self ..))), (by rw [h])⟩
              · exact ⟨q, List.mem_of_mem_drop h, rfl⟩)⟩, hw1.setCell hgb.1 _⟩
  · have HUP : Hid (∀ p ∈ kvP (L.drop i), bytesBefore (encR r) p.1 = true) := up_drop hup
    have HKV : Hid (kvP L = kvP (L.take i) ++ kvP (L.drop i)) := by show kvP L = _; rw [← kvP_app, List.take_append_drop]
    have HKL : Hid ((kvP (L.take i) ++ kvP (L.drop i)).length = ln) := by show _ = _; rw [← HKV.out, kvP_len, HLN.out]
    have HAL : Hid ((L.take i).length = i) := by show (L.take i).length = i; rw [List.length_take, HLN.out]; omega
    have HAE : Hid (addE (kvP L) (encR r) n = if n < 0 then 9 else if n = 0 then 0 else if ln = 4096 then 2 else 0) := by
      show addE (kvP L) (encR r) n = _
      rw [HKV.out, addE_new HLO.out HUP.out n2, HKL.out]
    clear hup hg hlo
    have hwn : IntKind.i64.wrap n = n := by rw [wrap_is]; omega
    have c2f : ¬ 1073741824 < n := by omega
    rw [HLN.out] at HM1
    by_cases c1 : n < 0
    · have HE : Hid (addE (kvP L) (encR r) n = 9) := by show _ = _; rw [HAE.out, if_pos c1]
      go_wp2
      go_ret2
      exact ⟨.inl ⟨by rw [HE.out]; decide, _, ret_more HE.out.symm⟩, hw1⟩
    · by_cases c2 : n = 0
      · subst c2
        have HE : Hid (addE (kvP L) (encR r) 0 = 0) := by show _ = _; rw [HAE.out, if_neg c1, if_pos rfl]
        go_wp2
        go_ret2
        exact ⟨.inr ⟨HE.out, _, L, by rw [HKV.out, addV_none HLO.out HUP.out], HROW.out, rfl, HM1.out, fun q hq => .inl ⟨q, hq, rfl⟩⟩, hw1⟩
      · have c3 : 0 < n := by omega
        have c2' : (n == 0) = false := by rw [beq_eq_false_iff_ne]; exact c2
        by_cases c4 : ln = 4096
        · have HE : Hid (addE (kvP L) (encR r) n = 2) := by show _ = _; rw [HAE.out, if_neg c1, if_neg c2, if_pos c4]
          subst c4
          go_wp2
          go_ret2
          exact ⟨.inl ⟨by rw [HE.out]; decide, _, ret_more HE.out.symm⟩, hw1⟩
        · have HE : Hid (addE (kvP L) (encR r) n = 0) := by show _ = _; rw [HAE.out, if_neg c1, if_neg c2, if_neg c4]
          have c4' : ((ln : Int) == 4096) = false := by rw [beq_eq_false_iff_ne]; omega
          obtain ⟨i0, hii, hz0, hz1, hz2⟩ := info_parts infoC
          have HI : Hid (Tryz.prog.info? 71 = some i0 ∧ i0.zero = some (.agg #[.slice none 0 0, .int .i64 0]) ∧ i0.size = 2 ∧ i0.bytes = 32) := ⟨hii, hz0, hz1, hz2⟩
          clear hii hz0 hz1 hz2
          have HON : Hid (w1.ownsRow base 71 2 (.slice ad ln cap) ln (flatP L)) := by
            have h := HM1.out.own
            rw [HLN.out] at h
            exact h
          have hlow1 := HM1.out.low
          have hwi : IntKind.i64.wrap ((i : Int) + 1) = (i : Int) + 1 := by rw [wrap_is]; omega
          go_wp2_with (at_builtin; refine wpList_append_lies _ rfl (.tmp 76) (.tmp 78) 27 rfl base 71 i0 (.agg #[.slice none 0 0, .int .i64 0]) 2 32 Tryz.underlying27 HI.out.1 HI.out.2.1 HI.out.2.2.1 HI.out.2.2.2 rfl (by decide) (.slice ad ln cap) ln (flatP L) rfl (World.ownsRow.alloc HON.out _) ⟨w1.heap.size, 0, none⟩ 1 1 [.slice none 0 0, .int .i64 0] rfl rfl (cell_two_new _ _ _ _) (by intro u hu; simp at hu; rcases hu with rfl | rfl <;> rfl) (by decide) (by unfold maxLen; omega) (by omega) (by simp; omega) (w1.heap.size + 1) (by simp) ?_; intro g cap2 w2 hown2 hgrow2 hat2 hlt2; have HO2 : Hid (w2.ownsRow base 71 2 (.slice (some ⟨g, 0, none⟩) (ln + 1) cap2) (ln + 1) (flatP L ++ [.slice none 0 0, .int .i64 0])) := hown2)
          have hcap2 : ln + 1 ≤ cap2 := by
            rcases HO2.out.2 with ⟨hv, _⟩ | ⟨_, _, _, hv, _, _, h2, _⟩
            · cases hv
            · injection hv with _ _ e
              rw [e]; exact h2
          obtain ⟨bl, hbl⟩ : ∃ z, ln - i = z := ⟨_, rfl⟩
          have HBL : Hid ((L.drop i).length = bl) := by show _ = _; rw [List.length_drop, HLN.out]; exact hbl
          obtain ⟨d2, hf2n, hd2⟩ := back_ct g (ln + 1) cap2 (i + 1) (by omega) hcap2
          obtain ⟨s2, hf3n, hs2⟩ := back_ct g (ln + 1) cap2 i (by omega) hcap2
          rw [show ln + 1 - (i + 1) = bl by omega] at hf2n
          rw [show ln + 1 - i = bl + 1 by omega] at hf3n
          have hf2 : ∀ w, (Instr.sliceAt 27 (.slice (some ⟨g, 0, none⟩) (ln + 1) cap2) (some (.int .i64 ((i : Int) + 1))) none none).run Tryz.prog w = .ok (.slice (some d2) bl (cap2 - (i + 1))) w := hf2n
          have hf3 : ∀ w, (Instr.sliceAt 27 (.slice (some ⟨g, 0, none⟩) (ln + 1) cap2) (some (.int .i64 (i : Int))) none none).run Tryz.prog w = .ok (.slice (some s2) (bl + 1) (cap2 - i)) w := hf3n
          have hroom := fun ty => MV_room2 (w := w1) (w2 := w2.drew) (base := base) (g := g) (cap := cap2) (n := ln) (v := .slice ad ln cap) (A := L.take i) (B := L.drop i) (z := [.slice none 0 0, .int .i64 0]) (by rw [List.take_append_drop]; exact HM1.out) (by rw [List.take_append_drop, HLN.out]) (.cells #[.slice none 0 0, .int .i64 0] 71) rfl (by rw [List.take_append_drop]; exact HO2.out.drew) ⟨hgrow2.os, hgrow2.tape, hgrow2.output, hgrow2.size, hgrow2.block⟩ hat2 (some d2) (some s2) (cap2 - (i + 1)) (cap2 - i) (fun hB => by rw [HAL.out]; rw [HBL.out] at hB; exact congrArg some (hd2 (by omega))) (fun hB => by rw [HAL.out]; rw [HBL.out] at hB; exact congrArg some (hs2 (by omega))) ty
          rw [HBL.out] at hroom
          have HROOM : Hid (∀ ty, ∃ w3, (Builtin.copy_ #[27, 27] ty #[.slice (some d2) bl (cap2 - (i + 1)), .slice (some s2) (bl + 1) (cap2 - i)]).run Tryz.prog w2.drew = .ok (goInt bl) w3 ∧
            (∃ y, y.length = 2 ∧ w3.ownsRow base 71 2 (.slice (some ⟨g, 0, none⟩) (ln + 1) cap2) (ln + 1) (flatP (L.take i) ++ y ++ flatP (L.drop i))) ∧
            Below base w1 w3 ∧ (∀ p ∈ L.take i ++ L.drop i, rowOne w3 (.slice (some ⟨g, 0, none⟩) (ln + 1) cap2) p) ∧ (∀ b, b < w1.heap.size → (Value.slice ad ln cap).ownBlock ≠ some b → w3.heap[b]? = w1.heap[b]?)) := hroom
          clear hroom hf2n hf3n hd2 hs2 hown2 hgrow2
          go_wp2
          go_region_law (first
            | (obtain ⟨w3, hrun, ⟨y, hy, hown3⟩, hb3, hrows3, hoth3⟩ := HROOM.out 3; refine step_cpy (by rfl) (.tmp 83) (.tmp 86) (by rfl) (.slice (some d2) bl (cap2 - (i + 1))) (.slice (some s2) (bl + 1) (cap2 - i)) _ (by simp [Act.eval, Act.put]) (by simp [Act.eval, Act.put]) hrun ?_))
          all_goals
            have hw3 : Below base w w3 := hw1.trans hb3
            have hlow3 : base ≤ w3.heap.size := Nat.le_trans hbas hw3.size
            have HO3 : Hid (w3.ownsRow base 71 2 (.slice (some ⟨g, 0, none⟩) (ln + 1) cap2) (ln + 1) (flatP (L.take i) ++ y ++ flatP (L.drop i))) := hown3
            have HR3 : Hid (∀ p ∈ L.take i ++ L.drop i, rowOne w3 (.slice (some ⟨g, 0, none⟩) (ln + 1) cap2) p) := hrows3
            have KC : Hid (Calls Tryz.prog 65 #[.slice c rl cc] w3 fun e w' => (∃ ad c, e = .returned (.slice ad rl c) ∧ ownV w' w3.heap.size (.slice ad rl c) r) ∧ Below w3.heap.size w3 w') := by
              have h := copy_any c cc r w3 (rowAt_apart (rowAt_below HR.out hb1) (fun b o x e hlt => hoth3 b hlt (by have := HAP.out b o x e; rw [HLN.out] at this; exact this))) (by rw [HRL.out]; omega)
              rw [HRL.out] at h; exact h
            clear hown3 hrows3 hoth3
            have i1 : (0 : Int) ≤ (i : Int) := by omega
            have i2 : (i : Int) < (ln : Int) + 1 := by omega
            go_wp2_with fail
            refine KC.out.mono ?_
            rintro e w4 ⟨⟨ad4, cy, rfl, hov⟩, hb4⟩
            have ho4 := own_below HO3.out hb4
            have hlo4 := ho4.1
            obtain ⟨y0, y1, hyy⟩ : ∃ y0 y1, y = [y0, y1] := by
              match y, hy with
              | [y0, y1], _ => exact ⟨y0, y1, rfl⟩
            have hlA := flatP_len (L.take i)
            rw [HAL.out] at hlA
            have hc1 : w4.cell? ⟨g, i * 2, none⟩ = some y0 := by
              have hc := World.ownsRow.cells ho4 (g := g) rfl (i * 2) y0 (by
                rw [hyy, List.append_assoc, List.getElem?_append_right (by omega), show i * 2 - (flatP (L.take i)).length = 0 by omega]; rfl)
              rw [addr_add, Nat.zero_add] at hc
              exact hc
            have hc2 : w4.cell? ⟨g, i * 2 + 1, none⟩ = some y1 := by
              have hc := World.ownsRow.cells ho4 (g := g) rfl (i * 2 + 1) y1 (by
                rw [hyy, List.append_assoc, List.getElem?_append_right (by omega), show i * 2 + 1 - (flatP (L.take i)).length = 1 by omega]; rfl)
              rw [addr_add, Nat.zero_add] at hc
              exact hc
            have hz1 := own_frozen ho4 (i * 2)
            have hz2 := own_frozen ho4 (i * 2 + 1)
            have hgb := own_lt HO3.out (g := g) rfl
            have hput := MV_put (w3 := w3) (w4 := w4) (base := base) (g := g) (cap := cap2) (n := ln) (c := cy) (A := L.take i) (B := L.drop i) (y := y) (ad := ad4) (r := r) (m := n) hlow3 (by rw [HAL.out, HBL.out]; omega) hy HO3.out HR3.out hb4 (by rw [HRL.out]; exact hov)
            rw [HAL.out, HRL.out] at hput
            have HPUT : Hid (MV ((w4.setCell ⟨g, i * 2, none⟩ (.slice ad4 rl cy)).setCell ⟨g, i * 2 + 1, none⟩ (.int .i64 n)) base (.slice (some ⟨g, 0, none⟩) (ln + 1) cap2) (L.take i ++ (.slice ad4 rl cy, ⟨r, n⟩) :: L.drop i)) := hput
            clear hput hyy hy hlo4 ho4
            go_wp2
            go_ret2
            have hw4 := hw3.trans (hb4.mono hlow3)
            exact ⟨.inr ⟨HE.out, _, _, by rw [HKV.out, addV_new HLO.out HUP.out c3 n2 (by rw [HKL.out]; exact c4), kvP_app, kvP_cons], fun q hq => (by
              rcases List.mem_append.1 hq with h | h
              · exact HROW.out q (List.mem_of_mem_take h)
              · rcases List.mem_cons.1 h with h | h
                · rw [h]; exact HOK.out
                · exact HROW.out q (List.mem_of_mem_drop h)), rfl, HPUT.out, fun q hq => (by
              rcases List.mem_append.1 hq with h | h
              · exact .inl ⟨q, List.mem_of_mem_take h, rfl⟩
              · rcases List.mem_cons.1 h with h | h
                · refine .inr (fun b hb => ?_)
                  rw [h] at hb
                  exact Nat.le_trans hlow3 (own_lt hov hb).1
                · exact .inl ⟨q, List.mem_of_mem_drop h, rfl⟩)⟩, (hw4.setCell hgb.1 _).setCell hgb.1 _⟩
end Go.Proofs.YtbfbgdinhiglaaaGreat.ch
