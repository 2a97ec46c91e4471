/- GroupAll's memory (the document's): heads, and parts, each a slice of slices. -/
import Derived.Test.YtcpanmaahhiioaaGreatBatEst
import Derived.Test.YtcpanmaahhiioaaGreatMgBatJ
import Derived.Test.YtcpanmaahhiioaaGreatMgBatK
namespace Go.Proofs.YtcpanmaahhiioaaGreat.bt
open Go.ChangeShapes Go.WideShapes Go.ChangeAt Go.RowKit
open vl pl
set_option linter.unusedVariables false
set_option linter.unusedSimpArgs false
/-- a group: its head, where that lies; its rows, where they lie -/
abbrev GX := (Value × ch.Cnt) × (Value × ch.PL)
def hs (G : List GX) : ch.PL := G.map (·.1)
def qv (G : List GX) : List Value := G.map (·.2.1)
def hOwn (h : Value × ch.Cnt) : Own1 := ⟨h.1, 62, 3, h.2.r.length, celCells h.2.r⟩
def pOwn (q : Value × ch.PL) : Own1 := ⟨q.1, 45, 2, q.2.length, ch.flatP q.2⟩
def restE (G : List GX) : List Own1 := G.flatMap fun x => [hOwn x.1, pOwn x.2]
def headE (hv : Value) (G : List GX) : Own1 := ⟨hv, 45, 2, G.length, ch.flatP (hs G)⟩
def partE (pv : Value) (G : List GX) : Own1 := ⟨pv, 27, 1, G.length, qv G⟩
def estE (hv pv : Value) (G : List GX) : List Own1 := headE hv G :: partE pv G :: restE G
theorem restE_app (A B : List GX) : restE (A ++ B) = restE A ++ restE B := by unfold restE; rw [List.flatMap_append]
theorem restE_cons (x : GX) (B : List GX) : restE (x :: B) = hOwn x.1 :: pOwn x.2 :: restE B := rfl
theorem hs_app (A B : List GX) : hs (A ++ B) = hs A ++ hs B := by unfold hs; rw [List.map_append]
theorem qv_app (A B : List GX) : qv (A ++ B) = qv A ++ qv B := by unfold qv; rw [List.map_append]
theorem hs_len (G : List GX) : (hs G).length = G.length := by unfold hs; rw [List.length_map]
theorem qv_len (G : List GX) : (qv G).length = G.length := by unfold qv; rw [List.length_map]
theorem perm3 {α : Type} (a b c : α) (R : List α) : (a :: b :: c :: R).Perm (c :: a :: b :: R) := ((List.Perm.swap c b R).cons a).trans (List.Perm.swap c a (b :: R))
theorem rest_part (A B : List GX) (x : GX) : (restE (A ++ x :: B)).Perm (pOwn x.2 :: (restE A ++ hOwn x.1 :: restE B)) := by
  rw [restE_app, restE_cons]
  have h := List.perm_middle (l₁ := restE A ++ [hOwn x.1]) (l₂ := restE B) (a := pOwn x.2)
  rw [List.append_assoc, List.append_assoc] at h
  exact h
theorem rest_new (A B : List GX) (x : GX) : (restE (A ++ x :: B)).Perm (hOwn x.1 :: pOwn x.2 :: restE (A ++ B)) := by
  rw [restE_app, restE_cons, restE_app]
  have h := List.perm_middle (l₁ := restE A) (l₂ := pOwn x.2 :: restE B) (a := hOwn x.1)
  have h2 := List.perm_middle (l₁ := restE A) (l₂ := restE B) (a := pOwn x.2)
  exact h.trans (h2.cons _)
/-- behind an append (of what was laid out in a block of its own) -/
theorem est_app {w w2 : World} {base : Nat} {x x' : Own1} {E : List Own1} {o : Obj} (h : Est w base (x :: E)) (hg : (w.alloc o).grownBy w2 x.v.ownBlock) (hx : x'.here w2 base) (hat : ∀ g, x'.v.ownBlock = some g → x.v.ownBlock = some g ∨ g = w.heap.size + 1) : Est w2 base (x' :: E) := by
  have h1 := Est_below h ((Below.refl _ _).alloc (Nat.le_refl _) o)
  refine Est_grow h1 hg hx (fun g hg' => ?_)
  rcases hat g hg' with h2 | h2
  · exact .inl h2
  · right; simp; omega
/-- behind a copy in between -/
theorem est_room {w2 w3 : World} {base g n cap s : Nat} {e : TypeId} {xs ys : List Value} {E : List Own1} (h : Est w2 base (⟨.slice (some ⟨g, 0, none⟩) n cap, e, s, n, xs⟩ :: E)) (hs : w3.heap.size = w2.heap.size) (hb : ∀ b, b ≠ g → w3.heap[b]? = w2.heap[b]?)
    (hx : w3.ownsRow base e s (.slice (some ⟨g, 0, none⟩) n cap) n ys) : Est w3 base (⟨.slice (some ⟨g, 0, none⟩) n cap, e, s, n, ys⟩ :: E) :=
  Est_frame h (by omega) (fun b _ ho => hb b (fun e => ho (by rw [e]; rfl))) hx (fun b hb => .inl hb)
/-- the heads, as a view -/
theorem est_view {w : World} {base n cap : Nat} {ad : Option Addr} {pv : Value} {G : List GX} (h : Est w base (estE (.slice ad n cap) pv G)) : ch.viewAt w ad (ch.outOf (hs G)) := by
  intro i hi
  rw [ch.out_len, hs_len] at hi
  have ho : w.ownsRow base 45 2 (.slice ad n cap) G.length (ch.flatP (hs G)) := h.own (headE (.slice ad n cap) G) (List.mem_cons_self ..)
  obtain ⟨ad', cap', e, hg⟩ := ch.row_form ho
  cases e
  obtain ⟨g, rfl⟩ := hg (by omega)
  have hx : (hs G)[i]? = some (G[i]).1 := by unfold hs; rw [List.getElem?_map, List.getElem?_eq_getElem hi]; rfl
  obtain ⟨f1, f2⟩ := ch.flatP_at (hs G) i _ hx
  have hc := World.ownsRow.cells ho (g := g) rfl
  have c1 := hc _ _ f1
  have c2 := hc _ _ f2
  rw [ch.addr_add] at c1 c2
  have hm : hOwn (G[i]).1 ∈ estE (.slice (some ⟨g, 0, none⟩) G.length cap) pv G := List.mem_cons_of_mem _ (List.mem_cons_of_mem _ (List.mem_flatMap.2 ⟨G[i], List.getElem_mem hi, List.mem_cons_self ..⟩))
  have hr : ownV w base (G[i]).1.1 (G[i]).1.2.r := h.own _ hm
  obtain ⟨ra, rc, er⟩ := ownV_form hr
  rw [ch.out_at (hs G) i _ hx]
  rw [er] at c1 hr
  exact ⟨g, 0, ra, rc, rfl, c1, ownV_row hr, c2⟩
/-- a group's rows, appended to -/
theorem est_put {w w2 : World} {base gp n pcap : Nat} {hv q' : Value} {A B : List GX} {x : GX} {o : Obj} {L' : ch.PL} (h : Est w base (estE hv (.slice (some ⟨gp, 0, none⟩) n pcap) (A ++ x :: B))) (hn : n = (A ++ x :: B).length)
    (hown : w2.ownsRow base 45 2 q' L'.length (ch.flatP L')) (hg : (w.alloc o).grownBy w2 x.2.1.ownBlock) (hat : ∀ g, q'.ownBlock = some g → x.2.1.ownBlock = some g ∨ g = w.heap.size + 1) :
    Est (w2.setCell ⟨gp, A.length, none⟩ q') base (estE hv (.slice (some ⟨gp, 0, none⟩) n pcap) (A ++ (x.1, (q', L')) :: B)) := by
  have p1 : (estE hv (.slice (some ⟨gp, 0, none⟩) n pcap) (A ++ x :: B)).Perm (pOwn x.2 :: headE hv (A ++ x :: B) :: partE (.slice (some ⟨gp, 0, none⟩) n pcap) (A ++ x :: B) :: (restE A ++ hOwn x.1 :: restE B)) :=
    (((rest_part A B x).cons _).cons _).trans (perm3 _ _ _ _)
  have h1 := est_app (x' := pOwn (q', L')) (Est_perm h p1) hg hown hat
  have h2 := Est_perm h1 (perm3 (pOwn (q', L')) (headE hv (A ++ x :: B)) (partE (.slice (some ⟨gp, 0, none⟩) n pcap) (A ++ x :: B)) (restE A ++ hOwn x.1 :: restE B))
  have h3 : Est w2 base (⟨.slice (some ⟨gp, 0, none⟩) n pcap, 27, 1, n, qv (A ++ x :: B)⟩ :: pOwn (q', L') :: headE hv (A ++ x :: B) :: (restE A ++ hOwn x.1 :: restE B)) := by
    have e : partE (.slice (some ⟨gp, 0, none⟩) n pcap) (A ++ x :: B) = ⟨.slice (some ⟨gp, 0, none⟩) n pcap, 27, 1, n, qv (A ++ x :: B)⟩ := by unfold partE; rw [← hn]
    rw [e] at h2
    exact h2
  have h4 := Est_set (j := A.length) h3 (by rw [hn, List.length_append, List.length_cons]; omega) q'
  have e1 : (qv (A ++ x :: B)).set A.length q' = qv (A ++ (x.1, (q', L')) :: B) := by
    rw [qv_app, qv_app, List.set_append_right _ _ (by rw [qv_len]; exact Nat.le_refl _), qv_len, Nat.sub_self]
    rfl
  have e2 : headE hv (A ++ x :: B) = headE hv (A ++ (x.1, (q', L')) :: B) := by
    unfold headE
    rw [List.length_append, List.length_append, hs_app, hs_app]
    rfl
  have e3 : (⟨.slice (some ⟨gp, 0, none⟩) n pcap, 27, 1, n, qv (A ++ (x.1, (q', L')) :: B)⟩ : Own1) = partE (.slice (some ⟨gp, 0, none⟩) n pcap) (A ++ (x.1, (q', L')) :: B) := by
    unfold partE
    rw [hn, List.length_append, List.length_append]
    rfl
  rw [e1, e2, e3] at h4
  refine Est_perm h4 ?_
  refine (perm3 _ _ _ _).trans ?_
  refine ((List.Perm.refl _).cons _).trans ?_
  refine List.Perm.cons _ (List.Perm.cons _ ?_)
  exact (rest_part A B (x.1, (q', L'))).symm
/-- a new group, without rows yet -/
theorem est_ins {w : World} {base : Nat} {hv pv : Value} {A B : List GX} {h : Value × ch.Cnt} (he : Est w base (⟨hv, 45, 2, (A ++ B).length + 1, ch.flatP (hs A ++ h :: hs B)⟩ :: ⟨pv, 27, 1, (A ++ B).length + 1, qv A ++ .slice none 0 0 :: qv B⟩ :: hOwn h :: restE (A ++ B))) :
    Est w base (estE hv pv (A ++ (h, (.slice none 0 0, [])) :: B)) := by
  have h1 : Est w base (pOwn (.slice none 0 0, []) :: _) := Est_new he (Below.refl _ _) (x := pOwn (.slice none 0 0, [])) (World.ownsRow_nil _ _ _ _) (fun g hg => by cases hg)
  have e1 : headE hv (A ++ (h, (.slice none 0 0, [])) :: B) = ⟨hv, 45, 2, (A ++ B).length + 1, ch.flatP (hs A ++ h :: hs B)⟩ := by
    unfold headE
    rw [hs_app]
    have : (A ++ (h, ((.slice none 0 0, []) : Value × ch.PL)) :: B).length = (A ++ B).length + 1 := by simp; omega
    rw [this]; rfl
  have e2 : partE pv (A ++ (h, (.slice none 0 0, [])) :: B) = ⟨pv, 27, 1, (A ++ B).length + 1, qv A ++ .slice none 0 0 :: qv B⟩ := by
    unfold partE
    rw [qv_app]
    have : (A ++ (h, ((.slice none 0 0, []) : Value × ch.PL)) :: B).length = (A ++ B).length + 1 := by simp; omega
    rw [this]; rfl
  refine Est_perm h1 ?_
  unfold estE
  rw [e1, e2]
  refine List.Perm.trans ?_ (List.Perm.cons _ (List.Perm.cons _ (rest_new A B _).symm))
  refine List.Perm.trans (List.Perm.swap _ _ _) (List.Perm.cons _ ?_)
  refine List.Perm.trans (List.Perm.swap _ _ _) (List.Perm.cons _ ?_)
  exact List.Perm.swap _ _ _
end Go.Proofs.YtcpanmaahhiioaaGreat.bt
