/- A range over a function whose own body ranges over a function: what such an iterator promises ('Iter': what the caller holds must abide the turn of any block that is no cells and was laid since), and what a caller may conclude. -/
import Derived.Test.YtnfknkihiapgiaaRows
import Derived.RangeFuncNested
import Derived.RangeFuncBound
import Derived.RangeFuncCalls
import Derived.RangeFuncLeaves
import Derived.RangeFuncBox
import Derived.Shelf.Abstract
import Derived.Shelf.RegionOpen
import Derived.WalkKit
import Derived.ProofKit
import Derived.OpenShut
import Derived.WalkSpells
import Derived.WalkSmall
import Derived.OwnWalkIn
import Derived.TacticsInMore
import Derived.LoopNIn
import Derived.LoopIn
namespace Go.Proofs.Ytnfknkihiapgiaa.bf
open Go.ChangeShapes Go.WideShapes Go.ChangeAt Go.RowKit
set_option linter.unusedVariables false
set_option linter.unusedSimpArgs false

/-- within the wide fence no depth counts -/
theorem yield_depth {m m' l : Nat} {P : Program} {args : Array Value} {W : World} {R : Ending → World → Prop} (h : YieldAt Fence.wide m P l args W R) : YieldAt Fence.wide m' P l args W R := by
  obtain ⟨fn, tmps, assign, body, h1, h2⟩ := h
  exact ⟨fn, tmps, assign, body, h1, h2.1, fun c cs _ => h2.2 c cs (room_wide _)⟩
theorem calls_depth {m m' : Nat} {P : Program} {f : FuncId} {args : Array Value} {W : World} {R : Ending → World → Prop} (h : CallsIn Fence.wide m P f args W R) : CallsIn Fence.wide m' P f args W R := callsIn_wide.2 (callsIn_wide.1 h)

/-- what an iterator does with whatever yield it is handed: the rounds come at xs, in order, until one says 'no more' -/
def Iter (P : Program) (gf : Nat) (lb : Array Value) (xs : List (Array Value)) (Kp : World → World → Prop) (w : World) : Prop :=
  ∀ (l : Nat) (J : Nat → World → Prop) (Jx : Unit → World → Prop) (W : World), Below w.heap.size w W → OwnFrom W.heap.size J → OwnFrom W.heap.size Jx →
    (∀ k x W1, xs[k]? = some x → J k W1 → YieldAt Fence.wide 0 P l x W1 fun e W' => KeepsFrom W.heap.size W1 W' ∧ ((e = .returned (.bool true) ∧ J (k + 1) W' ∧ Kp W1 W') ∨ (e = .returned (.bool false) ∧ Jx () W'))) →
    J 0 W → CallsIn Fence.wide 0 P gf (#[.func (.yield l) #[] #[]] ++ lb) W fun e W' => (∃ v, e = .returned v) ∧ (J xs.length W' ∨ Jx () W')

/-- how a round's body may be left -/
def leftAs (B : Nat) (Kp : World → World → Prop) (I : World → Prop) (Ix : Code → World → Prop) (W : World) : Exit → Act → World → Prop
  | .normal, _, W' => KeepsFrom B W W' ∧ Kp W W' ∧ I W'
  | .ret, _, W' => KeepsFrom B W W' ∧ Ix .ret W'
  | .exit id, _, W' => KeepsFrom B W W' ∧ Ix (.exit id) W'
  | .goto t, _, W' => KeepsFrom B W W' ∧ Ix (.goto t) W'
  | .panic _, _, _ => False
  | .outgrown, _, _ => False

theorem kf_mono {B B' : Nat} {W W' : World} (h : KeepsFrom B W W') (hB : B ≤ B') : KeepsFrom B' W W' := ⟨h.size, fun k o hk => h.same k o (Nat.le_trans hB hk)⟩
theorem keeps_low {B l : Nat} (W : World) (o : Obj) (hl : l < B) : KeepsFrom B W (W.putObj l o) := ⟨by simp, fun k o' hk h _ => (World.putObj_heap_other (by omega)).trans h⟩
theorem own_up {β : Type} {B B' : Nat} {I : β → World → Prop} (h : OwnFrom B I) (hB : B ≤ B') : OwnFrom B' I := fun s W W' row hs hg hr => h s W W' row hs hg (fun r e => ⟨Nat.le_trans hB (hr r e).1, (hr r e).2⟩)
/-- of a block that lay, and holds no cells, beyond B -/
theorem stays {B k : Nat} {W W' : World} {o : Obj} {row : Option Nat} (hg : W.grownBy W' row) (hr : ∀ r, row = some r → B ≤ r) (hk : k < B) (h : W.heap[k]? = some o) : W'.heap[k]? = some o :=
  (hg.block k (Array.getElem?_eq_some_iff.1 h).1 (fun e => by have := hr k e.symm; omega)).trans h

section
variable {P : Program} {g : Operand} {ps : Array Tmp} {assign body : Code} {Q : Exit → Act → World → Prop} {a : Act} {w : World} {gf : Nat} {lb : Array Value} {xs : List (Array Value)} {Kp : World → World → Prop} {w0 : World}

/-- the statement 'for .. := range g { .. }', outside any round -/
theorem range_law (hg : a.eval g = .func (.func gf) #[] lb) (eg : ∀ args w, (callFunc gf args).run P w = .ok (.enter gf args) w) (hit : Iter P gf lb xs Kp w0) (hb0 : Below w0.heap.size w0 w) (hps : ∀ x ∈ xs, x.size = ps.size)
    (hKt : ∀ {A B C : World}, Kp A B → Kp B C → Kp A C) (hKb : ∀ (W : World) (l : Nat) (o o' : Obj), w.heap.size ≤ l → W.heap[l]? = some o → o.isCells = false → Kp W (W.putObj l o'))
    (I : Nat → World → Prop) (Ix : Code → World → Prop) (hI : OwnFrom w.heap.size I) (hIx : OwnFrom w.heap.size Ix) (h0 : I 0 w) (Ax : Nat → Act → World → Prop) (hAx : ∀ k a', OwnFrom w.heap.size (fun (_ : Unit) W => Ax k a' W))
    (hassign : ∀ (l k : Nat) (x : Array Value) (W : World) (K : Act → World → Prop), xs[k]? = some x → I k W → (∀ a' W', KeepsFrom w.heap.size W W' → Kp W W' → I k W' → Ax k a' W' → K a' W') →
      assign.wpIn (Fence.wide.inRound l) 0 P (Exit.then K (fun _ _ _ => False)) { tmps := (ps.zip x).foldl (fun t (p, v) => t.setIfInBounds p v) a.tmps, defers := [] } W)
    (hbody : ∀ (l k : Nat) (x : Array Value) (a' : Act) (W : World), xs[k]? = some x → w.heap.size ≤ l → (∃ r, W.heap[l]? = some (.loop r)) → I k W → Ax k a' W → body.wpIn (Fence.wide.inRound l) 0 P (leftAs w.heap.size Kp (I (k + 1)) Ix W) a' W)
    (hdone : ∀ (D : Nat) (W : World), w.heap.size ≤ D → I xs.length W → W.heap[D]? = some (.deferred (some [])) → Q .normal { a with defers := { target := .collected D, args := #[] } :: a.defers } W)
    (hstop : ∀ (D : Nat) (c : Code) (W : World), w.heap.size ≤ D → Ix c W → W.heap[D]? = some (.deferred (some [])) → c.wpIn Fence.wide 0 P Q { a with defers := { target := .collected D, args := #[] } :: a.defers } W) :
    (Code.rangeFunc g ps assign body).wpIn Fence.wide 0 P Q a w := by
  refine wpIn_rangeFunc fun fn hfn => ?_
  obtain ⟨N, hN⟩ : ∃ N, w.heap.size = N := ⟨_, rfl⟩
  -- the loop's record, in each of its states
  obtain ⟨rc, hrc⟩ : ∃ rc : LoopState → Option Code → Loop, rc = fun s p => { state := s, pending := p, fn := fn, tmps := a.tmps, params := ps, assign := assign, body := body, defers := w.heap.size } := ⟨_, rfl⟩
  have rec_ps : ∀ s p, (rc s p).params = ps := fun s p => by rw [hrc]
  obtain ⟨V, hV⟩ : ∃ V, (w.alloc (.deferred (some []))).alloc (.loop (rc .ready none)) = V := ⟨_, rfl⟩
  have hVs : V.heap.size = N + 2 := by rw [← hV]; simp [hN]
  have hVr : V.heap[N + 1]? = some (.loop (rc .ready none)) := by
    have h := World.alloc_heap_new (w.alloc (.deferred (some []))) (.loop (rc .ready none))
    rw [World.size_alloc, hN, hV] at h; exact h
  have hVd : V.heap[N]? = some (.deferred (some [])) := by
    rw [← hV, ← hN]; exact (Below.heap_alloc _ _ _ (by simp)).trans (World.alloc_heap_new w _)
  have hVw : Below w.heap.size w V := by rw [← hV]; exact ((Below.refl _ _).alloc (Nat.le_refl _) _).alloc (by simp) _
  have hVI : I 0 V := by rw [← hV]; exact hI.alloc _ (hI.alloc _ h0)
  rw [hN] at hI hIx hAx hKb hbody hassign hdone hstop
  refine ⟨N + 1, [{ target := .collected N, args := #[] }], V, { target := .fn (.func gf) lb, args := #[.func (.yield (N + 1)) #[] #[]] }, V, gf, #[.func (.yield (N + 1)) #[] #[]] ++ lb, V, ?_, ?_, fun _ _ => trivial, ?_, fun h => by simp [Fence.wide] at h, ?_⟩
  · have h := run_enterLoop_outer (P := P) (w := w) fn a.tmps ps assign body
    rw [← hV, ← hN, hrc]; exact h
  · simp only [resolve, hg]
    simp [go_sem]
  · simp [invoke, go_sem, eg]
  · refine calls_depth ((hit (N + 1)
      (fun k W => I k W ∧ W.heap[N + 1]? = some (.loop (rc .ready none)) ∧ W.heap[N]? = some (.deferred (some [])))
      (fun _ W => ∃ c, Ix c W ∧ W.heap[N + 1]? = some (.loop (rc .done (some c))) ∧ W.heap[N]? = some (.deferred (some [])))
      V (hb0.trans (hVw.mono hb0.size)) ?_ ?_ ?_ ⟨hVI, hVr, hVd⟩).mono ?_)
    · rintro k W W' row ⟨h1, h2, h3⟩ hgr hr
      have hr' : ∀ r, row = some r → N + 2 ≤ r := fun r e => by have := (hr r e).1; omega
      exact ⟨hI k W W' row h1 hgr (fun r e => ⟨by have := hr' r e; omega, (hr r e).2⟩), stays hgr hr' (by omega) h2, stays hgr hr' (by omega) h3⟩
    · rintro _ W W' row ⟨c, h1, h2, h3⟩ hgr hr
      have hr' : ∀ r, row = some r → N + 2 ≤ r := fun r e => by have := (hr r e).1; omega
      exact ⟨c, hIx c W W' row h1 hgr (fun r e => ⟨by have := hr' r e; omega, (hr r e).2⟩), stays hgr hr' (by omega) h2, stays hgr hr' (by omega) h3⟩
    · -- a round
      rintro k x W hx ⟨h1, h2, h3⟩
      have hlt : N + 1 < W.heap.size := (Array.getElem?_eq_some_iff.1 h2).1
      have hy := run_yield (P := P) (args := x) h2 (by rw [rec_ps]; exact hps x (List.mem_of_getElem? hx))
      refine ⟨_, _, _, _, hy, roundIn_of_wpIn trivial ?_⟩
      have e1 : (rc .ready none).tmps = a.tmps := by rw [hrc]
      have e2 : (rc .ready none).assign = assign := by rw [hrc]
      have e3 : (rc .ready none).body = body := by rw [hrc]
      rw [rec_ps, e1, e2, e3]
      refine hassign (N + 1) k x W _ hx h1 (fun a' W2 kf hk2 hi2 hax => ?_)
      have h2' := kf.same _ _ (by omega) h2 rfl
      have h3' := kf.same _ _ (by omega) h3 rfl
      have hst : (rc .ready none).state = .ready := by rw [hrc]
      refine ⟨_, run_beginRound h2' hst, ?_⟩
      have hb : ({ rc .ready none with state := .busy } : Loop) = rc .busy none := by rw [hrc]
      rw [hb]
      obtain ⟨X, hX⟩ : ∃ X, W2.putObj (N + 1) (.loop (rc .busy none)) = X := ⟨_, rfl⟩
      have hlt2 : N + 1 < W2.heap.size := (Array.getElem?_eq_some_iff.1 h2').1
      have x1 : X.heap[N + 1]? = some (.loop (rc .busy none)) := by rw [← hX]; exact World.putObj_heap_same hlt2
      have x2 : X.heap[N]? = some (.deferred (some [])) := by rw [← hX]; exact (World.putObj_heap_other (by omega)).trans h3'
      have x3 : I k X := by rw [← hX]; exact hI.putObj _ hi2 (by omega) h2' rfl
      have x4 : Ax k a' X := by rw [← hX]; exact (hAx k a').putObj (s := ()) _ hax (by omega) h2' rfl
      have x6 : KeepsFrom (N + 2) W X := (kf_mono kf (by omega)).trans (by rw [← hX]; exact keeps_low _ _ (by omega))
      have x5 : Kp W X := hKt hk2 (by rw [← hX]; exact hKb _ _ _ _ (by omega) h2' rfl)
      rw [hX]
      clear hX
      -- behind the round
      have fin : ∀ (j : Option Code) (Y : World), KeepsFrom N X Y →
          (Instr.endRound (N + 1) j).run P Y = .ok (.bool j.isNone) (Y.putObj (N + 1) (.loop (rc (if j.isNone then .ready else .done) j))) ∧ Y.heap[N + 1]? = some (.loop (rc .busy none)) ∧
          (Y.putObj (N + 1) (.loop (rc (if j.isNone then .ready else .done) j))).heap[N + 1]? = some (.loop (rc (if j.isNone then .ready else .done) j)) ∧
          (Y.putObj (N + 1) (.loop (rc (if j.isNone then .ready else .done) j))).heap[N]? = some (.deferred (some [])) := fun j Y hk => by
        have y1 := hk.same _ _ (by omega) x1 rfl
        have y2 := hk.same _ _ (by omega) x2 rfl
        have hend := run_endRound (P := P) j y1
        have e : ({ rc .busy none with state := if j.isNone then .ready else .done, pending := j } : Loop) = rc (if j.isNone then .ready else .done) j := by rw [hrc]
        rw [e] at hend
        exact ⟨hend, y1, World.putObj_heap_same (Array.getElem?_eq_some_iff.1 y1).1, (World.putObj_heap_other (by omega)).trans y2⟩
      refine wpIn_mono (hbody (N + 1) k x a' X hx (by omega) ⟨_, x1⟩ x3 x4) ?_
      rintro e a3 Y hp
      cases e with
      | normal =>
        obtain ⟨p1, p2, p3⟩ := hp
        obtain ⟨q1, q2, q3, q4⟩ := fin none Y p1
        exact ⟨_, _, q1, by rw [hVs]; exact (x6.trans (kf_mono p1 (by omega))).trans (keeps_low _ _ (by omega)), .inl ⟨rfl, ⟨hI.putObj _ p3 (by omega) q2 rfl, q3, q4⟩, hKt (hKt x5 p2) (hKb _ _ _ _ (by omega) q2 rfl)⟩⟩
      | ret =>
        obtain ⟨p1, p3⟩ := hp
        obtain ⟨q1, q2, q3, q4⟩ := fin (some .ret) Y p1
        exact ⟨_, _, q1, by rw [hVs]; exact (x6.trans (kf_mono p1 (by omega))).trans (keeps_low _ _ (by omega)), .inr ⟨rfl, .ret, hIx.putObj _ p3 (by omega) q2 rfl, q3, q4⟩⟩
      | exit id =>
        obtain ⟨p1, p3⟩ := hp
        obtain ⟨q1, q2, q3, q4⟩ := fin (some (.exit id)) Y p1
        exact ⟨_, _, q1, by rw [hVs]; exact (x6.trans (kf_mono p1 (by omega))).trans (keeps_low _ _ (by omega)), .inr ⟨rfl, .exit id, hIx.putObj _ p3 (by omega) q2 rfl, q3, q4⟩⟩
      | goto t =>
        obtain ⟨p1, p3⟩ := hp
        obtain ⟨q1, q2, q3, q4⟩ := fin (some (.goto t)) Y p1
        exact ⟨_, _, q1, by rw [hVs]; exact (x6.trans (kf_mono p1 (by omega))).trans (keeps_low _ _ (by omega)), .inr ⟨rfl, .goto t, hIx.putObj _ p3 (by omega) q2 rfl, q3, q4⟩⟩
      | panic ch => exact hp.elim
      | outgrown => exact hp.elim
    · -- behind the iterator
      rintro e W ⟨⟨v, rfl⟩, (⟨h1, h2, h3⟩ | ⟨c, h1, h2, h3⟩)⟩
      · refine ⟨none, _, ?_, hdone N _ (by omega) (hI.putObj (.loop (rc .exhausted none)) h1 (by omega) h2 rfl) ((World.putObj_heap_other (by omega)).trans h3)⟩
        have h := run_endLoop (P := P) h2 (by rw [hrc]; simp)
        rw [hrc] at h ⊢; exact h
      · refine ⟨some c, _, ?_, hstop N c _ (by omega) (hIx.putObj (.loop (rc .exhausted (some c))) h1 (by omega) h2 rfl) ((World.putObj_heap_other (by omega)).trans h3)⟩
        have h := run_endLoop (P := P) h2 (by rw [hrc]; simp)
        rw [hrc] at h ⊢; exact h
end
end Go.Proofs.Ytnfknkihiapgiaa.bf
