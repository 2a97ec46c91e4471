/- Several texts in one: ChgMore, ChgOwn. -/
import Derived.Test.YtcpanmaahhiioaaGreatMgChgF
/- The document's more: a row n times more, in a view that is one's own. -/
namespace Go.Proofs.YtcpanmaahhiioaaGreat.ch
open Go.ChangeShapes Go.WideShapes Go.ChangeAt Go.RowKit Go.Maps Go.WideMaps
open vl
set_option linter.unusedVariables false
set_option linter.unusedSimpArgs false

theorem MV_put {w3 w4 : World} {base g cap n c : Nat} {A B : PL} {y : List Value} {ad : Option Addr} {r : List Cel} {m : Int} (hlow : base ≤ w3.heap.size) (hn : A.length + B.length = n) (hy : y.length = 2)
    (hown : w3.ownsRow base 45 2 (.slice (some ⟨g, 0, none⟩) (n + 1) cap) (n + 1) (flatP A ++ y ++ flatP B)) (hrows : ∀ p ∈ A ++ B, rowOne w3 (.slice (some ⟨g, 0, none⟩) (n + 1) cap) p)
    (hb : Below w3.heap.size w3 w4) (hov : ownV w4 w3.heap.size (.slice ad r.length c) r) :
    MV ((w4.setCell ⟨g, A.length * 2, none⟩ (.slice ad r.length c)).setCell ⟨g, A.length * 2 + 1, none⟩ (.int .i64 m)) base (.slice (some ⟨g, 0, none⟩) (n + 1) cap) (A ++ (.slice ad r.length c, ⟨r, m⟩) :: B) := by
  have hown4 := own_below hown hb
  have hglt := own_lt hown (g := g) rfl
  have h1 := own_set hown4 (A.length * 2) (by omega) (.slice ad r.length c)
  have h2 := own_set h1 (A.length * 2 + 1) (by omega) (.int .i64 m)
  have hlA := flatP_len A
  have e : ((flatP A ++ y ++ flatP B).set (A.length * 2) (.slice ad r.length c)).set (A.length * 2 + 1) (.int .i64 m) = flatP (A ++ (.slice ad r.length c, ⟨r, m⟩) :: B) := by
    rw [flatP_app, flatP_cons]
    match y, hy with
    | [y0, y1], _ =>
      rw [List.append_assoc, List.set_append_right _ _ (by omega), List.set_append_right _ _ (by omega), show A.length * 2 - (flatP A).length = 0 by omega, show A.length * 2 + 1 - (flatP A).length = 1 by omega]
      rfl
  rw [e] at h2
  have hs4 : w3.heap.size ≤ w4.heap.size := hb.size
  have hblk : ∀ b, b ≠ g → ((w4.setCell ⟨g, A.length * 2, none⟩ (.slice ad r.length c)).setCell ⟨g, A.length * 2 + 1, none⟩ (.int .i64 m)).heap[b]? = w4.heap[b]? := fun b hne => by
    rw [Below.heap_setCell _ _ _ b hne, Below.heap_setCell _ _ _ b hne]
  have hsz : ((w4.setCell ⟨g, A.length * 2, none⟩ (.slice ad r.length c)).setCell ⟨g, A.length * 2 + 1, none⟩ (.int .i64 m)).heap.size = w4.heap.size := by simp
  refine ⟨by omega, by rw [show (A ++ (Value.slice ad r.length c, (⟨r, m⟩ : Cnt)) :: B).length = n + 1 by simp; omega]; exact h2, ?_⟩
  have hold : ∀ p ∈ A ++ B, rowOne ((w4.setCell ⟨g, A.length * 2, none⟩ (.slice ad r.length c)).setCell ⟨g, A.length * 2 + 1, none⟩ (.int .i64 m)) (.slice (some ⟨g, 0, none⟩) (n + 1) cap) p := fun p hp =>
    rowOne_keep (hrows p hp) (fun b hlt hne => by
      have hbg : b ≠ g := fun e => hne (by rw [e]; rfl)
      rw [hblk b hbg]; exact hb.block b hlt) (by omega) (fun b _ k => k)
  intro p hp
  rcases List.mem_append.1 hp with h | h
  · exact hold p (List.mem_append.2 (.inl h))
  · rcases List.mem_cons.1 h with h | h
    · subst h
      refine ⟨ad, c, rfl, ?_, ?_⟩
      · refine rowAt_block (cap := c) (ownV_row hov) (fun b hbk hlt => hblk b (fun e => ?_))
        have := own_lt hov hbk
        omega
      · intro b hbk
        have := own_lt hov hbk
        refine ⟨fun e => ?_, by omega⟩
        have hbg : g = b := by cases e; rfl
        omega
    · exact hold p (List.mem_append.2 (.inr h))

theorem step_cut {ops : Array Oper} {o : Oper} {a : Act} {w w' : World} {K : Act → World → Prop} {Q : Exit → Act → World → Prop} {E : Prop} (hgd : o.guard = none) (s x : Operand)
    (hop : o.op = .call { callee := .builtin .append, args := #[s, x], argTypes := #[27, 27] }) (vs vx v' : Value) (hs : a.eval s = vs) (hx : a.eval x = vx)
    (hrun : (Builtin.append_ #[27, 27] o.type #[vs, vx]).run Tryz.prog w = .ok v' w') (h : K (a.put o.dst v') w') :
    if Region.wanted o (yielded ops a.tmps) = true then Oper.wp Tryz.prog o a w K Q else E := by
  rw [if_pos (by simp [Region.wanted, hgd])]
  unfold Oper.wp
  simp [execOp, hop, resolve, invoke, builtin, hs, hx, hrun, Result.andThen]
  exact h
theorem step_cpy {ops : Array Oper} {o : Oper} {a : Act} {w w' : World} {K : Act → World → Prop} {Q : Exit → Act → World → Prop} {E : Prop} (hgd : o.guard = none) (s x : Operand)
    (hop : o.op = .call { callee := .builtin .copy, args := #[s, x], argTypes := #[27, 27] }) (vs vx v' : Value) (hs : a.eval s = vs) (hx : a.eval x = vx)
    (hrun : (Builtin.copy_ #[27, 27] o.type #[vs, vx]).run Tryz.prog w = .ok v' w') (h : K (a.put o.dst v') w') :
    if Region.wanted o (yielded ops a.tmps) = true then Oper.wp Tryz.prog o a w K Q else E := by
  rw [if_pos (by simp [Region.wanted, hgd])]
  unfold Oper.wp
  simp [execOp, hop, resolve, invoke, builtin, hs, hx, hrun, Result.andThen]
  exact h
theorem sizeCt (w : World) : (sizeOf 45).run Tryz.prog w = .ok 2 w := by kernel_rfl
theorem elemCt : Tryz.prog.elem 27 = 45 := by kernel_rfl
theorem undCt : Tryz.prog.underlying 27 = some (.slice (Tryz.prog.elem 27)) := by rw [elemCt]; exact Tryz.underlying27
theorem front_ct (g n cap k : Nat) (hk : k ≤ cap) (w : World) : (Instr.sliceAt 27 (.slice (some ⟨g, 0, none⟩) n cap) none (some (.int .i64 k)) none).run Tryz.prog w = .ok (.slice (some ⟨g, 0, none⟩) k cap) w := by
  rw [run_sliceAt_slice (t := 27) (h := undCt), run_slice_h (t := 27) (ht := undCt) (h0 := by omega) (h2 := by omega), elemCt, sizeCt]
  simp [Result.andThen, sliced]
  intro _; rfl
theorem back_ct (g n cap k : Nat) (hk : k ≤ n) (hn : n ≤ cap) : ∃ a2 : Addr, (∀ w, (Instr.sliceAt 27 (.slice (some ⟨g, 0, none⟩) n cap) (some (.int .i64 k)) none none).run Tryz.prog w = .ok (.slice (some a2) (n - k) (cap - k)) w) ∧ (k < n → a2 = ⟨g, k * 2, none⟩) := by
  refine ⟨if cap = k then ⟨g, 0, none⟩ else ⟨g, k * 2, none⟩, ?_, fun h => by rw [if_neg (by omega)]⟩
  intro w
  rw [run_sliceAt_slice (t := 27) (h := undCt), run_slice_l (t := 27) (ht := undCt) (h0 := by omega) (h1 := by omega), elemCt, sizeCt]
  simp [Result.andThen, sliced]
  split
  · rfl
  · simp [Addr.add]
    omega

def moreRes (base : Nat) (L : PL) (r : List Cel) (n : Int) (e : Ending) (w' : World) : Prop :=
  (addE (kvP L) (encR r) n ≠ 0 ∧ ∃ v', e = .returned (.tuple #[v', .int .i64 (addE (kvP L) (encR r) n)])) ∨
  (addE (kvP L) (encR r) n = 0 ∧ ∃ v' L', kvP L' = addV (kvP L) (encR r) n ∧ (∀ p ∈ L', rowOk p.2.r) ∧ e = .returned (.tuple #[v', .int .i64 0]) ∧ MV w' base v' L')

theorem ret_more {v : Value} {a b : Int} (h : a = b) : Ending.returned (.tuple #[v, .int .i64 a]) = .returned (.tuple #[v, .int .i64 b]) := by rw [h]
/-- what add answers where the row stands there, and where it doesn't -/
theorem addE_is {A B : KV} {k : List UInt8} {m n : Int} (hA : ∀ p ∈ A, bytesBefore p.1 k = true) (hm : 1 ≤ m) : addE (A ++ (k, m) :: B) k n = if m + n < 0 then 9 else if 1073741824 < m + n then 2 else 0 := by
  unfold addE
  rw [get_mid hA]
  split
  · rfl
  · split
    · rfl
    · split
      · rfl
      · rw [if_neg (by omega)]
theorem addE_new {A B : KV} {k : List UInt8} {n : Int} (hA : ∀ p ∈ A, bytesBefore p.1 k = true) (hB : ∀ p ∈ B, bytesBefore k p.1 = true) (hn : n ≤ 1073741824) : addE (A ++ B) k n = if n < 0 then 9 else if n = 0 then 0 else if (A ++ B).length = 4096 then 2 else 0 := by
  unfold addE
  rw [get_new hA hB, Int.zero_add]
  split
  · rfl
  · rw [if_neg (by omega)]
    split
    · rfl
    · by_cases e : (A ++ B).length = 4096
      · rw [if_pos ⟨rfl, e⟩, if_pos e]
      · rw [if_neg (fun h => e h.2), if_neg e]
theorem addV_cut {A B : KV} {k : List UInt8} {m n : Int} (hA : ∀ p ∈ A, bytesBefore p.1 k = true) (hB : ∀ p ∈ B, bytesBefore k p.1 = true) (h : m + n = 0) : addV (A ++ (k, m) :: B) k n = A ++ B := by
  unfold addV
  rw [get_mid hA, if_neg (by omega), if_neg (by omega), if_pos h, del_mid hA hB]
theorem addV_set {A B : KV} {k : List UInt8} {m n : Int} (hA : ∀ p ∈ A, bytesBefore p.1 k = true) (hB : ∀ p ∈ B, bytesBefore k p.1 = true) (hm : 1 ≤ m) (h1 : 0 < m + n) (h2 : m + n ≤ 1073741824) : addV (A ++ (k, m) :: B) k n = A ++ (k, m + n) :: B := by
  unfold addV
  rw [get_mid hA, if_neg (by omega), if_neg (by omega), if_neg (by omega), if_neg (by omega), put_mid hA hB]
theorem addV_none {A B : KV} {k : List UInt8} (hA : ∀ p ∈ A, bytesBefore p.1 k = true) (hB : ∀ p ∈ B, bytesBefore k p.1 = true) : addV (A ++ B) k 0 = A ++ B := by
  unfold addV
  rw [get_new hA hB, if_neg (by omega), if_neg (by omega), if_pos (by omega), del_nonek (fun p hp => by
    rcases List.mem_append.1 hp with h | h
    · exact ne_low hA p h
    · exact ne_up hB p h)]
theorem addV_new {A B : KV} {k : List UInt8} {n : Int} (hA : ∀ p ∈ A, bytesBefore p.1 k = true) (hB : ∀ p ∈ B, bytesBefore k p.1 = true) (h1 : 0 < n) (h2 : n ≤ 1073741824) (h3 : (A ++ B).length ≠ 4096) : addV (A ++ B) k n = A ++ (k, n) :: B := by
  unfold addV
  rw [get_new hA hB, Int.zero_add, if_neg (by omega), if_neg (by omega), if_neg (by omega), if_neg (fun h => h3 h.2), put_new hA hB]

end Go.Proofs.YtcpanmaahhiioaaGreat.ch

/- The document's Own: a view of its own. -/
namespace Go.Proofs.YtcpanmaahhiioaaGreat.ch
open Go.ChangeShapes Go.WideShapes Go.ChangeAt Go.RowKit Go.Maps Go.WideMaps
open vl
set_option linter.unusedVariables false
set_option linter.unusedSimpArgs false

theorem MV_snoc {w w1 w2 : World} {base : Nat} {v : Value} {L : PL} {r : List Cel} {n : Int} {ad : Option Addr} {cap g cap2 : Nat} (h : MV w base v L) (hb1 : Below w.drew.heap.size w.drew w1) (hov : ownV w1 w.heap.size (.slice ad r.length cap) r)
    (hown2 : w2.ownsRow base 45 2 (.slice (some ⟨g, 0, none⟩) (L.length + 1) cap2) (L.length + 1) (flatP L ++ [.slice ad r.length cap, .int .i64 n])) (hg2 : (w1.alloc (.cells #[.slice ad r.length cap, .int .i64 n] 45)).grownBy w2 v.ownBlock) (hat : v.ownBlock = some g ∨ g = w1.heap.size + 1) :
    MV w2 base (.slice (some ⟨g, 0, none⟩) (L.length + 1) cap2) (L ++ [(.slice ad r.length cap, ⟨r, n⟩)]) ∧ Below base w w2 := by
  have hlow := h.low
  have hs1 : w.heap.size ≤ w1.heap.size := hb1.size
  have hs2 : w1.heap.size + 1 ≤ w2.heap.size := by have := hg2.size; simpa using this
  have hvlt : ∀ b, v.ownBlock = some b → base ≤ b ∧ b < w.heap.size := fun b hb => own_lt h.own hb
  have hblk : ∀ b, b < w1.heap.size → v.ownBlock ≠ some b → w2.heap[b]? = w1.heap[b]? := fun b hb ho => by
    rw [hg2.block b (by simp; omega) (fun e => ho e.symm)]
    exact Below.heap_alloc _ _ b hb
  have hbw : Below base w w2 := by
    have hlow1 : base ≤ w.drew.heap.size := h.low
    have hb0 : Below base w.drew w2 := ((hb1.mono hlow1).alloc (Nat.le_trans hlow hs1) (.cells #[.slice ad r.length cap, .int .i64 n] 45)).grown hg2 (by simp; omega) (fun b hb => (hvlt b hb).1)
    exact ((Below.refl base w).drew).trans hb0
  refine ⟨⟨Nat.le_trans hlow hbw.size, ?_, ?_⟩, hbw⟩
  · rw [List.length_append, flatP_app]; exact hown2
  · intro p hp
    rcases List.mem_append.1 hp with h1 | h1
    · refine rowOne_keep (h.rows p h1) (fun b hb hne => (hblk b (by omega) hne).trans (hb1.block b hb)) (by omega) ?_
      intro b hb hne e
      have hbg : g = b := by cases e; rfl
      rcases hat with h2 | h2
      · exact hne (by rw [← hbg]; exact h2)
      · omega
    · rw [List.mem_singleton.1 h1]
      refine ⟨ad, cap, rfl, ?_, ?_⟩
      · refine rowAt_block (cap := cap) (ownV_row hov) (fun b hbk hlt => hblk b hlt (fun e => ?_))
        have h3 := own_lt hov hbk
        have h4 := hvlt b e
        omega
      · intro b hbk
        have h3 := own_lt hov hbk
        refine ⟨fun e => ?_, by omega⟩
        have hbg : g = b := by cases e; rfl
        rcases hat with h2 | h2
        · have h4 := hvlt g h2; omega
        · omega
end Go.Proofs.YtcpanmaahhiioaaGreat.ch
