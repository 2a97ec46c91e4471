import Derived.Test.YtbfbgdinhiglaaaGreatS13
import Derived.Lib.Overlaps
import Derived.Laws.Externs
import Derived.Shelf.Spec.SlicesInsert
import Derived.Shelf.Spec.SlicesInsertGrow
namespace Go.Proofs.YtbfbgdinhiglaaaGreat.gr
open Go.ChangeShapes Go.WideShapes Go.ChangeAt Go.RowKit
open vl pl bt
set_option linter.unusedVariables false
set_option linter.unusedSimpArgs false
attribute [local go_sem] Oper.semAt_some
set_option maxRecDepth 100000 in
set_option maxHeartbeats 4000000 in
theorem insT_shift (g n cap i : Nat) (A B : List Value) (base X : Nat) (k1 k2 : Int) (ks : ByteArray) (m : Int) (w : World) (ho : w.ownsRow base 82 4 (.slice (some ⟨g, 0, none⟩) n cap) n (A ++ B)) (hA : A.length = i * 4) (hi : i < n) (hroom : n + 1 ≤ cap) (hX : w.heap[X]? = some (.cells #[.int .i64 k1, .int .i64 k2, .string ks, .int .i64 m] 82 (0, 0))) (hne : X ≠ g) (hone : ∀ u ∈ B, u.oneCell' = true) :
 Calls Tryz.prog 132 #[.slice (some ⟨g, 0, none⟩) n cap, .int .i64 i, .slice (some ⟨X, 0, none⟩) 1 1] w fun e w' => e = .returned (.slice (some ⟨g, 0, none⟩) (n + 1) cap) ∧ w'.ownsRow base 82 4 (.slice (some ⟨g, 0, none⟩) (n + 1) cap) (n + 1) (A ++ [.int .i64 k1, .int .i64 k2, .string ks, .int .i64 m] ++ B) ∧ (∀ b, b ≠ g → w'.heap[b]? = w.heap[b]?) ∧ w'.heap.size = w.heap.size ∧ Below g w w' := by
 obtain ⟨i0, hii, hz0, hz1, hz2⟩ := info_parts infoT
 have hcap : cap ≤ maxLen := by
  rcases ho.2 with ⟨hv, _⟩ | ⟨g', cap', cur, hv, h1, hg, h2, h3, h4, h5⟩
  ·cases hv
  ·cases hv; exact h3
 have hgh : ∃ cur, w.heap[g]? = some (.cells cur 82 (0, 0)) ∧ cur.size = cap * 4 := by
  rcases ho.2 with ⟨hv, _⟩ | ⟨g', cap', cur, hv, h1, hg, h2, h3, h4, h5⟩
  ·cases hv
  ·cases hv; exact ⟨cur, hg, h4⟩
 obtain ⟨cur, hg, hcs⟩ := hgh
 obtain ⟨z, hzl, ho1⟩ := own_more ho hroom
 have hBl : B.length = (n - i) * 4 := by
  have := ho.1
  rw [List.length_append, hA] at this
  omega
 have hsz : ∀ w, (Go.sizeOf 82).run Tryz.prog w = .ok 4 w := fun w => by simp [Go.sizeOf, Go.typeInfo, hii, hz1]
 have hov : ∀ lb cb, (callFunc 160 #[.slice (some ⟨X, 0, none⟩) 1 1, .slice (some ⟨g, (i + 1) * 4, none⟩) lb cb]).run Tryz.prog w = .ok (.value (.bool false)) w := fun lb cb => by
  rw [run_callFunc_extern Tryz.func160 (by kernel_rfl) (by kernel_rfl) (by kernel_rfl) (e := Extern.SlicesOverlaps.overlaps #[61, 61] #[4]) (by kernel_rfl),
   Lib.run_overlaps_apart w 61 4 82 Tryz.underlying61 4 hsz ⟨X, 0, none⟩ ⟨g, (i + 1) * 4, none⟩ 1 1 lb cb hne 82 82 4 (cap * 4) (by simp [World.shape?, hX]) (by simp [World.shape?, hg, hcs]) (by omega) (by simp [World.frozen?, hX]) (by simp [World.frozen?, hX])]
  rfl
 have mixed : Tryz.prog.follows .mixedOrders = true := by kernel_rfl
 have hw1 : IntKind.i64.wrap ((i : Int) + 1) = (i : Int) + 1 := by rw [IntKind.wrap_i64]; unfold maxLen at hcap; omega
 have hw2 : IntKind.i64.wrap ((n : Int) + 1) = (n : Int) + 1 := by rw [IntKind.wrap_i64]; unfold maxLen at hcap; omega
 have e1 : ¬ ((i : Int) = (n : Int)) := by omega
 have e2 : ((i : Int) == (n : Int)) = false := by simp; omega
 have e3 : ¬ ((n : Int) + 1 > (cap : Int)) := by omega
 have e4 : (0 : Int) ≤ (i : Int) + 1 := by omega
 have e5 : (0 : Int) ≤ (i : Int) := by omega
 have e6 : i ≤ n := by omega
 have e7 : (i : Int) ≤ (n : Int) := by omega
 have e8 : ((i : Int) + 1).toNat = i + 1 := by omega
 have e9 : ((n : Int) + 1).toNat = n + 1 := by omega
 have e10 : ¬ (cap = i + 1) := by omega
 have e11 : ¬ (cap = i) := by omega
 have e12 : (n : Int) + 1 ≤ (cap : Int) := by omega
 have e13 : (i : Int) + 1 ≤ (n : Int) + 1 := by omega
 have e14 : (i : Int) ≤ (n : Int) + 1 := by omega
 have e15 : (0 : Int) ≤ (n : Int) + 1 := by omega
 have hd1 : w.drew.ownsRow base 82 4 (.slice (some ⟨g, 0, none⟩) (n + 1) cap) (n + 1) (A ++ B ++ z) := ch.own_below ho1 bR.drew
 obtain ⟨w3, hrun3, ⟨y, hyl, how3⟩, hs3, hb3, hbel3⟩ := own_room (w2 := w.drew) (na := i) (nb := n - i) 61 82 i0 Tryz.underlying61 hii hz1 hd1 hA hBl hzl (by omega) hone (some ⟨g, (i + 1) * 4, none⟩) (some ⟨g, i * 4, none⟩) (cap - (i + 1)) (cap - i) (fun _ => rfl) (fun _ => rfl) 3
 have hX3 : w3.heap[X]? = some (.cells #[.int .i64 k1, .int .i64 k2, .string ks, .int .i64 m] 82 (0, 0)) := (hb3 X hne).trans hX
 obtain ⟨w4, hrun4, how4, hs4, hb4, hbel4⟩ := own_write how3 61 i0 Tryz.underlying61 hii hz1 3 A y B [.int .i64 k1, .int .i64 k2, .string ks, .int .i64 m] i rfl hA (by rw [hyl]; rfl) rfl (n - i + 1) (cap - i) (by omega) ⟨X, 0, none⟩ 1 (fun j u hu => by
  match j, hu with
  | 0, hu => simp at hu; subst hu; rw [ch.addr_add]; simp [World.cell?, hX3]
  | 1, hu => simp at hu; subst hu; rw [ch.addr_add]; simp [World.cell?, hX3]
  | 2, hu => simp at hu; subst hu; rw [ch.addr_add]; simp [World.cell?, hX3]
  | 3, hu => simp at hu; subst hu; rw [ch.addr_add]; simp [World.cell?, hX3]
  | j + 4, hu => simp at hu) (by intro u hu; simp at hu; rcases hu with rfl | rfl | rfl | rfl <;> rfl)
 have HR3 : Hid (∀ l1 l2, l1 = n - i → l2 = n - i + 1 → (Builtin.copy_ #[61, 61] 3 #[.slice (some ⟨g, (i + 1) * 4, none⟩) l1 (cap - (i + 1)), .slice (some ⟨g, i * 4, none⟩) l2 (cap - i)]).run Tryz.prog w.drew = .ok (goInt (n - i : Nat)) w3) := fun l1 l2 e1 e2 => by rw [e1, e2]; exact hrun3
 have HR4 : Hid (∀ l2, l2 = n - i + 1 → (Builtin.copy_ #[61, 61] 3 #[.slice (some ⟨g, i * 4, none⟩) l2 (cap - i), .slice (some ⟨X, 0, none⟩) 1 1]).run Tryz.prog w3 = .ok (goInt 1) w4) := fun l2 e2 => by rw [e2]; exact hrun4
 have HF : Hid (w4.ownsRow base 82 4 (.slice (some ⟨g, 0, none⟩) (n + 1) cap) (n + 1) (A ++ [.int .i64 k1, .int .i64 k2, .string ks, .int .i64 m] ++ B) ∧ (∀ b, b ≠ g → w4.heap[b]? = w.heap[b]?) ∧ w4.heap.size = w.heap.size ∧ Below g w w4) := ⟨how4, fun b hb => (hb4 b hb).trans (hb3 b hb), hs4.trans hs3, ((Below.refl g w).drew.trans hbel3).trans hbel4⟩
 clear ho1 ho hg hcs cur hrun3 hrun4 how3 how4 hd1 hbel3 hbel4 hb3 hb4 hs3 hs4 hX3
 go_enter Tryz.func132, Tryz.ntmps132
 go_wp2_with (simp only [hov])
 go_region_law_o (refine step_copy_runI rfl _ _ 61 61 rfl (.slice (some ⟨g, (i + 1) * 4, none⟩) (n - i) (cap - (i + 1))) (.slice (some ⟨g, i * 4, none⟩) (n + 1 - i) (cap - i)) (by simp [Act.eval, Act.put]) (by simp [Act.eval, Act.put]) (HR3.out _ _ rfl (by omega)) ?_)
 have hr4 := HR4.out (n + 1 - i) (by omega)
 go_wp2
 go_ret
 exact ⟨rfl, HF.out⟩
set_option maxRecDepth 100000 in
set_option maxHeartbeats 4000000 in
theorem insG_shift (g n cap i : Nat) (A B : List Value) (base X : Nat) (ra : Option Addr) (rl rc : Nat) (m : Int) (ba : Option Addr) (bl bc : Nat) (w : World) (ho : w.ownsRow base 53 3 (.slice (some ⟨g, 0, none⟩) n cap) n (A ++ B)) (hA : A.length = i * 3) (hi : i < n) (hroom : n + 1 ≤ cap) (hX : w.heap[X]? = some (.cells #[.slice ra rl rc, .int .i64 m, .slice ba bl bc] 53 (0, 0))) (hne : X ≠ g) (hone : ∀ u ∈ B, u.oneCell' = true) :
 Calls Tryz.prog 85 #[.slice (some ⟨g, 0, none⟩) n cap, .int .i64 i, .slice (some ⟨X, 0, none⟩) 1 1] w fun e w' => e = .returned (.slice (some ⟨g, 0, none⟩) (n + 1) cap) ∧ w'.ownsRow base 53 3 (.slice (some ⟨g, 0, none⟩) (n + 1) cap) (n + 1) (A ++ [.slice ra rl rc, .int .i64 m, .slice ba bl bc] ++ B) ∧ (∀ b, b ≠ g → w'.heap[b]? = w.heap[b]?) ∧ w'.heap.size = w.heap.size ∧ Below g w w' := by
 obtain ⟨i0, hii, hz0, hz1, hz2⟩ := info_parts infoG
 have hcap : cap ≤ maxLen := by
  rcases ho.2 with ⟨hv, _⟩ | ⟨g', cap', cur, hv, h1, hg, h2, h3, h4, h5⟩
  ·cases hv
  ·cases hv; exact h3
 have hgh : ∃ cur, w.heap[g]? = some (.cells cur 53 (0, 0)) ∧ cur.size = cap * 3 := by
  rcases ho.2 with ⟨hv, _⟩ | ⟨g', cap', cur, hv, h1, hg, h2, h3, h4, h5⟩
  ·cases hv
  ·cases hv; exact ⟨cur, hg, h4⟩
 obtain ⟨cur, hg, hcs⟩ := hgh
 obtain ⟨z, hzl, ho1⟩ := own_more ho hroom
 have hBl : B.length = (n - i) * 3 := by
  have := ho.1
  rw [List.length_append, hA] at this
  omega
 have hsz : ∀ w, (Go.sizeOf 53).run Tryz.prog w = .ok 3 w := fun w => by simp [Go.sizeOf, Go.typeInfo, hii, hz1]
 have hov : ∀ lb cb, (callFunc 130 #[.slice (some ⟨X, 0, none⟩) 1 1, .slice (some ⟨g, (i + 1) * 3, none⟩) lb cb]).run Tryz.prog w = .ok (.value (.bool false)) w := fun lb cb => by
  rw [run_callFunc_extern Tryz.func130 (by kernel_rfl) (by kernel_rfl) (by kernel_rfl) (e := Extern.SlicesOverlaps.overlaps #[26, 26] #[4]) (by kernel_rfl),
   Lib.run_overlaps_apart w 26 4 53 Tryz.underlying26 3 hsz ⟨X, 0, none⟩ ⟨g, (i + 1) * 3, none⟩ 1 1 lb cb hne 53 53 3 (cap * 3) (by simp [World.shape?, hX]) (by simp [World.shape?, hg, hcs]) (by omega) (by simp [World.frozen?, hX]) (by simp [World.frozen?, hX])]
  rfl
 have mixed : Tryz.prog.follows .mixedOrders = true := by kernel_rfl
 have hw1 : IntKind.i64.wrap ((i : Int) + 1) = (i : Int) + 1 := by rw [IntKind.wrap_i64]; unfold maxLen at hcap; omega
 have hw2 : IntKind.i64.wrap ((n : Int) + 1) = (n : Int) + 1 := by rw [IntKind.wrap_i64]; unfold maxLen at hcap; omega
 have e1 : ¬ ((i : Int) = (n : Int)) := by omega
 have e2 : ((i : Int) == (n : Int)) = false := by simp; omega
 have e3 : ¬ ((n : Int) + 1 > (cap : Int)) := by omega
 have e4 : (0 : Int) ≤ (i : Int) + 1 := by omega
 have e5 : (0 : Int) ≤ (i : Int) := by omega
 have e6 : i ≤ n := by omega
 have e7 : (i : Int) ≤ (n : Int) := by omega
 have e8 : ((i : Int) + 1).toNat = i + 1 := by omega
 have e9 : ((n : Int) + 1).toNat = n + 1 := by omega
 have e10 : ¬ (cap = i + 1) := by omega
 have e11 : ¬ (cap = i) := by omega
 have e12 : (n : Int) + 1 ≤ (cap : Int) := by omega
 have e13 : (i : Int) + 1 ≤ (n : Int) + 1 := by omega
 have e14 : (i : Int) ≤ (n : Int) + 1 := by omega
 have e15 : (0 : Int) ≤ (n : Int) + 1 := by omega
 have hd1 : w.drew.ownsRow base 53 3 (.slice (some ⟨g, 0, none⟩) (n + 1) cap) (n + 1) (A ++ B ++ z) := ch.own_below ho1 bR.drew
 obtain ⟨w3, hrun3, ⟨y, hyl, how3⟩, hs3, hb3, hbel3⟩ := own_room (w2 := w.drew) (na := i) (nb := n - i) 26 53 i0 Tryz.underlying26 hii hz1 hd1 hA hBl hzl (by omega) hone (some ⟨g, (i + 1) * 3, none⟩) (some ⟨g, i * 3, none⟩) (cap - (i + 1)) (cap - i) (fun _ => rfl) (fun _ => rfl) 3
 have hX3 : w3.heap[X]? = some (.cells #[.slice ra rl rc, .int .i64 m, .slice ba bl bc] 53 (0, 0)) := (hb3 X hne).trans hX
 obtain ⟨w4, hrun4, how4, hs4, hb4, hbel4⟩ := own_write how3 26 i0 Tryz.underlying26 hii hz1 3 A y B [.slice ra rl rc, .int .i64 m, .slice ba bl bc] i rfl hA (by rw [hyl]; rfl) rfl (n - i + 1) (cap - i) (by omega) ⟨X, 0, none⟩ 1 (fun j u hu => by
  match j, hu with
  | 0, hu => simp at hu; subst hu; rw [ch.addr_add]; simp [World.cell?, hX3]
  | 1, hu => simp at hu; subst hu; rw [ch.addr_add]; simp [World.cell?, hX3]
  | 2, hu => simp at hu; subst hu; rw [ch.addr_add]; simp [World.cell?, hX3]
  | j + 3, hu => simp at hu) (by intro u hu; simp at hu; rcases hu with rfl | rfl | rfl <;> rfl)
 have HR3 : Hid (∀ l1 l2, l1 = n - i → l2 = n - i + 1 → (Builtin.copy_ #[26, 26] 3 #[.slice (some ⟨g, (i + 1) * 3, none⟩) l1 (cap - (i + 1)), .slice (some ⟨g, i * 3, none⟩) l2 (cap - i)]).run Tryz.prog w.drew = .ok (goInt (n - i : Nat)) w3) := fun l1 l2 e1 e2 => by rw [e1, e2]; exact hrun3
 have HR4 : Hid (∀ l2, l2 = n - i + 1 → (Builtin.copy_ #[26, 26] 3 #[.slice (some ⟨g, i * 3, none⟩) l2 (cap - i), .slice (some ⟨X, 0, none⟩) 1 1]).run Tryz.prog w3 = .ok (goInt 1) w4) := fun l2 e2 => by rw [e2]; exact hrun4
 have HF : Hid (w4.ownsRow base 53 3 (.slice (some ⟨g, 0, none⟩) (n + 1) cap) (n + 1) (A ++ [.slice ra rl rc, .int .i64 m, .slice ba bl bc] ++ B) ∧ (∀ b, b ≠ g → w4.heap[b]? = w.heap[b]?) ∧ w4.heap.size = w.heap.size ∧ Below g w w4) := ⟨how4, fun b hb => (hb4 b hb).trans (hb3 b hb), hs4.trans hs3, ((Below.refl g w).drew.trans hbel3).trans hbel4⟩
 clear ho1 ho hg hcs cur hrun3 hrun4 how3 how4 hd1 hbel3 hbel4 hb3 hb4 hs3 hs4 hX3
 go_enter Tryz.func85, Tryz.ntmps85
 go_wp2_with (simp only [hov])
 go_region_law_o (refine step_copy_runI rfl _ _ 26 26 rfl (.slice (some ⟨g, (i + 1) * 3, none⟩) (n - i) (cap - (i + 1))) (.slice (some ⟨g, i * 3, none⟩) (n + 1 - i) (cap - i)) (by simp [Act.eval, Act.put]) (by simp [Act.eval, Act.put]) (HR3.out _ _ rfl (by omega)) ?_)
 have hr4 := HR4.out (n + 1 - i) (by omega)
 go_wp2
 go_ret
 exact ⟨rfl, HF.out⟩
theorem own_writeN {w : World} {base : Nat} {e : TypeId} {s n cap g : Nat} {xs : List Value} (h : w.ownsRow base e s (.slice (some ⟨g, 0, none⟩) n cap) n xs) (t : TypeId) (i0 : TypeInfo) (hu : Tryz.prog.underlying t = some (.slice e)) (hi : Tryz.prog.info? e = some i0) (hz1 : i0.size = s) (ty : TypeId)
 (A y B news : List Value) (na k : Nat) (hx : xs = A ++ y ++ B) (hA : A.length = na * s) (hy : y.length = news.length) (hnl : news.length = k * s) (dLen dCap sLen sCap : Nat) (hmin : Nat.min sLen dLen = k) (a : Addr) (hsrc : ∀ j v, news[j]? = some v → w.cell? (a.add j) = some v) (hone : ∀ v ∈ news, v.oneCell' = true) :
 ∃ w3, (Builtin.copy_ #[t, t] ty #[.slice (some ⟨g, na * s, none⟩) dLen dCap, .slice (some a) sLen sCap]).run Tryz.prog w = .ok (goInt k) w3 ∧ w3.ownsRow base e s (.slice (some ⟨g, 0, none⟩) n cap) n (A ++ news ++ B) ∧ w3.heap.size = w.heap.size ∧ (∀ b, b ≠ g → w3.heap[b]? = w.heap[b]?) ∧ Below g w w3 := by
 rcases h.2 with ⟨hv, _⟩ | ⟨g', cap', cur, hv, h1, hg, h2, h3, h4, h5⟩
 ·cases hv
 ·cases hv
  have hxl : xs.length = n * s := h.1
  have hm : n * s ≤ cap * s := Nat.mul_le_mul_right _ h2
  have hl : A.length + news.length + B.length = n * s := by rw [← hxl, hx]; simp only [List.length_append, hy]
  have hrun := run_copyS t e i0 s hu hi hz1 ty g (na * s) dLen dCap a sLen sCap cur e news hg (by rw [hmin]; exact hnl) hsrc (by rw [h4, ← hA]; omega) hone
  rw [hmin] at hrun
  obtain ⟨S, hS⟩ : ∃ S, cur.toList = A ++ y ++ B ++ S := ⟨cur.toList.drop (n * s), by
   have e := List.take_append_drop (n * s) cur.toList
   rw [h5, hx] at e
   exact e.symm⟩
  have hnew : cur.toList.take (na * s) ++ news ++ cur.toList.drop (na * s + news.length) = (A ++ news ++ B) ++ S := by
   rw [hS, ← hA, ← hy]
   have e1 : (A ++ y ++ B ++ S).take A.length = A := by rw [List.append_assoc, List.append_assoc]; exact List.take_left
   have e2 : (A ++ y ++ B ++ S).drop (A.length + y.length) = B ++ S := by
    rw [← List.length_append, List.append_assoc (A ++ y)]; exact List.drop_left
   rw [e1, e2]
   simp only [List.append_assoc]
  rw [hnew] at hrun
  have hsz : ((A ++ news ++ B) ++ S).length = cur.size := by
   have h9 : cur.size = cur.toList.length := Array.length_toList.symm
   rw [h9, hS]
   simp only [List.length_append, hy]
  refine ⟨_, hrun, ⟨by simp only [List.length_append]; exact hl, .inr ⟨g, cap, _, rfl, h1, setRow_heap w g cur _ _ _ hg, h2, h3, ?_, ?_⟩⟩, by simp [World.setRow], fun b hb => setRow_other w g b _ hb, ⟨rfl, rfl, rfl, by simp [World.setRow], fun k hk => setRow_other w g k _ (by omega)⟩⟩
  ·rw [List.size_toArray, hsz]; exact h4
  ·rw [show n * s = (A ++ news ++ B).length by simp only [List.length_append]; omega]
   exact List.take_left
theorem grow_zeros {w : World} {base : Nat} {e : TypeId} {s n cap g : Nat} {xs : List Value} (h : w.ownsRow base e s (.slice (some ⟨g, 0, none⟩) n cap) n xs) (t : TypeId) (i0 : TypeInfo) (z : Value) (bytes : Nat) (hu : Tryz.prog.underlying t = some (.slice e)) (hi : Tryz.prog.info? e = some i0) (hz0 : i0.zero = some z) (hz1 : i0.size = s) (hz2 : i0.bytes = bytes) (hzs : z.cells.size = s) (ty : TypeId)
 (A B : List Value) (i : Nat) (hx : xs = A ++ B) (hA : A.length = i * s) (hin : i < n) (hroom : cap < n + 1) (hbig : (n + 1) * bytes ≤ 140737488355328) (hmx : n + 1 ≤ 4611686018427387904) (hs0 : 0 < s) :
 ∃ cap2 w2 Z, (Builtin.append_ #[t, 3] ty #[.slice (some ⟨g, 0, none⟩) i cap, .int .i64 ((n : Int) + 1 - (i : Int))]).run Tryz.prog w = .ok (.slice (some ⟨w.heap.size, 0, none⟩) (n + 1) cap2) w2 ∧ w2.ownsRow base e s (.slice (some ⟨w.heap.size, 0, none⟩) (n + 1) cap2) (n + 1) (A ++ Z) ∧ Z.length = (n + 1 - i) * s ∧ Below w.heap.size w w2 ∧ w2.heap.size = w.heap.size + 1 := by
 have hgl := ch.own_lt h (g := g) rfl
 have hik : i + (n + 1 - i) = n + 1 := by omega
 have hold : (Builtin.firstCells i0.size i (.slice (some ⟨g, 0, none⟩) i cap)).run Tryz.prog w.drew = .ok A.toArray w.drew := by
  rw [hz1]
  exact run_firstCells_some w.drew s i ⟨g, 0, none⟩ i cap A hA (fun j v hj => World.ownsRow.cells h (g := g) rfl j v (by
   have hjl : j < A.length := by
    rcases Nat.lt_or_ge j A.length with h | h
    ·exact h
    ·rw [List.getElem?_eq_none h] at hj; cases hj
   rw [hx, List.getElem?_append_left hjl]
   exact hj))
 have hb2 : (n + 1 - i) * bytes ≤ 281474976710656 := Nat.le_trans (Nat.mul_le_mul_right _ (by omega)) (Nat.le_trans hbig (by decide))
 have hrun := Lib.run_append_grow_zeros w t 3 ty e i0 z .i64 .i64 hu Tryz.underlying3 hi hz0 (some ⟨g, 0, none⟩) i cap A hold (n + 1 - i) (by omega) (by rw [hz1]; exact hs0) (by omega) (by omega) (by rw [hz2]; exact hb2) (by rw [hz2, hik]; exact growslice_fits hroom hbig)
 rw [hik] at hrun
 have hkk : (n : Int) + 1 - (i : Int) = ((n + 1 - i : Nat) : Int) := by omega
 rw [← hkk] at hrun
 have hge := grownCap_ge w (n + 1) cap e
 have hle := grownCap_le_maxLen w (n + 1) cap e (by unfold maxLen; omega)
 generalize grownCap w (n + 1) cap e = cap2 at hrun hge hle
 have hzl : ∀ k, (Builtin.zeroCells z.cells k).toList.length = k * s := fun k => by rw [Array.length_toList]; simp [Builtin.zeroCells, hzs]
 refine ⟨cap2, _, (Builtin.zeroCells z.cells (n + 1 - i)).toList, hrun, ⟨?_, .inr ⟨w.heap.size, cap2, A.toArray ++ Builtin.zeroCells z.cells (n + 1 - i) ++ Builtin.zeroCells z.cells (cap2 - (n + 1)), rfl, by omega, (by show (w.heap.push _)[w.heap.size]? = _; simp), hge, hle, ?_, ?_⟩⟩, hzl _, bR.drew.alloc nR _, by simp⟩
 ·rw [List.length_append, hzl, hA, ← Nat.add_mul, hik]
 ·have h1 := hzl (n + 1 - i)
  have h2 := hzl (cap2 - (n + 1))
  rw [Array.length_toList] at h1 h2
  rw [Array.size_append, Array.size_append, h1, h2, List.size_toArray, hA, ← Nat.add_mul, ← Nat.add_mul, hik, show n + 1 + (cap2 - (n + 1)) = cap2 by omega]
 ·have h1 := hzl (n + 1 - i)
  rw [Array.toList_append, Array.toList_append, show (n + 1) * s = (A ++ (Builtin.zeroCells z.cells (n + 1 - i)).toList).length by rw [List.length_append, hzl, hA, ← Nat.add_mul, hik]]
  exact List.take_left
set_option maxRecDepth 100000 in
set_option maxHeartbeats 4000000 in
theorem insT_grow (g n cap i : Nat) (A B : List Value) (base X : Nat) (k1 k2 : Int) (ks : ByteArray) (m : Int) (w : World) (ho : w.ownsRow base 82 4 (.slice (some ⟨g, 0, none⟩) n cap) n (A ++ B)) (hA : A.length = i * 4) (hi : i < n) (hroom : cap < n + 1) (hn : n ≤ 1073741824) (c0 : w.cell? ⟨X, 0, none⟩ = some (.int .i64 k1)) (c1 : w.cell? ⟨X, 1, none⟩ = some (.int .i64 k2)) (c2 : w.cell? ⟨X, 2, none⟩ = some (.string ks)) (c3 : w.cell? ⟨X, 3, none⟩ = some (.int .i64 m)) (hone : ∀ u ∈ B, u.oneCell' = true) :
 Calls Tryz.prog 132 #[.slice (some ⟨g, 0, none⟩) n cap, .int .i64 i, .slice (some ⟨X, 0, none⟩) 1 1] w fun e w' => ∃ cap2, e = .returned (.slice (some ⟨w.heap.size, 0, none⟩) (n + 1) cap2) ∧ w'.ownsRow base 82 4 (.slice (some ⟨w.heap.size, 0, none⟩) (n + 1) cap2) (n + 1) (A ++ [.int .i64 k1, .int .i64 k2, .string ks, .int .i64 m] ++ B) ∧ Below w.heap.size w w' := by
 obtain ⟨i0, hii, hz0, hz1, hz2⟩ := info_parts infoT
 have hgl := ch.own_lt ho (g := g) rfl
 have hnc : n ≤ cap := by
  rcases ho.2 with ⟨hv, _⟩ | ⟨g', cap', cur, hv, h1, hg, h2, h3, h4, h5⟩
  ·cases hv
  ·cases hv; exact h2
 have hBl : B.length = (n - i) * 4 := by
  have := ho.1
  rw [List.length_append, hA] at this
  omega
 have hsrcX : ∀ j u, [.int .i64 k1, .int .i64 k2, .string ks, .int .i64 m][j]? = some u → w.cell? ((⟨X, 0, none⟩ : Addr).add j) = some u := fun j u hu => by
  rw [ch.addr_add, Nat.zero_add]
  match j, hu with
  | 0, hu => simp at hu; subst hu; exact c0
  | 1, hu => simp at hu; subst hu; exact c1
  | 2, hu => simp at hu; subst hu; exact c2
  | 3, hu => simp at hu; subst hu; exact c3
  | j + 4, hu => simp at hu
 have hone1 : ∀ v ∈ ([.int .i64 k1, .int .i64 k2, .string ks, .int .i64 m] : List Value), v.oneCell' = true := by intro u hu; simp at hu; rcases hu with rfl | rfl | rfl | rfl <;> rfl
 obtain ⟨cap2, w2, Z, hrunA, hownA, hZl, hbA, hsA⟩ := grow_zeros ho 61 i0 (.agg #[.int .i64 0, .int .i64 0, .string ⟨#[]⟩, .int .i64 0]) 40 Tryz.underlying61 hii hz0 hz1 hz2 rfl 61 A B i rfl hA hi hroom (by omega) (by omega) (by decide)
 have hc2 : n + 1 ≤ cap2 ∧ cap2 ≤ maxLen := by
  rcases hownA.2 with ⟨hv, _⟩ | ⟨g', cap', cur, hv, h1, hg, h2, h3, h4, h5⟩
  ·cases hv
  ·cases hv; exact ⟨h2, h3⟩
 have hZ1 : (Z.take 4).length = 4 := by rw [List.length_take, hZl]; omega
 have hZ2 : (Z.drop 4).length = (n - i) * 4 := by rw [List.length_drop, hZl]; omega
 obtain ⟨w3, hrunB, hownB, hsB, hbB, hbelB⟩ := own_writeN hownA 61 i0 Tryz.underlying61 hii hz1 3 A (Z.take 4) (Z.drop 4) [.int .i64 k1, .int .i64 k2, .string ks, .int .i64 m] i 1 (by rw [List.append_assoc, List.take_append_drop]) hA (by rw [hZ1]; rfl) rfl (n + 1 - i) (cap2 - i) 1 1 (Nat.min_eq_left (by omega)) ⟨X, 0, none⟩ (fun j u hu => by
  have := hsrcX j u hu
  rw [ch.addr_add] at this ⊢
  exact cL hbA this) hone1
 have hbelow3 : Below w.heap.size w w3 := hbA.trans (hbelB.mono nR)
 have hownB' : w3.drew.ownsRow base 82 4 (.slice (some ⟨w.heap.size, 0, none⟩) (n + 1) cap2) (n + 1) (A ++ [.int .i64 k1, .int .i64 k2, .string ks, .int .i64 m] ++ Z.drop 4) := ch.own_below hownB bR.drew
 obtain ⟨w4, hrunC, hownC, hsC, hbC, hbelC⟩ := own_writeN hownB' 61 i0 Tryz.underlying61 hii hz1 3 (A ++ [.int .i64 k1, .int .i64 k2, .string ks, .int .i64 m]) (Z.drop 4) [] B (i + 1) (n - i) (by rw [List.append_nil]) (by rw [List.length_append, hA, Nat.add_mul]; rfl) (by rw [hZ2, hBl]) hBl (n - i) (cap2 - (i + 1)) (n - i) (cap - i) (Nat.min_self _) ⟨g, i * 4, none⟩ (fun j u hu => by
  have hj : j < B.length := by
   rcases Nat.lt_or_ge j B.length with h | h
   ·exact h
   ·rw [List.getElem?_eq_none h] at hu; cases hu
  have h1 := World.ownsRow.cells ho (g := g) rfl (i * 4 + j) u (by rw [List.getElem?_append_right (by omega), hA, show i * 4 + j - i * 4 = j by omega]; exact hu)
  rw [ch.addr_add, Nat.zero_add] at h1
  rw [ch.add_at]
  exact cL (hbelow3.drew) h1) hone
 rw [List.append_nil] at hownC
 have HF : Hid (w4.ownsRow base 82 4 (.slice (some ⟨w.heap.size, 0, none⟩) (n + 1) cap2) (n + 1) (A ++ [.int .i64 k1, .int .i64 k2, .string ks, .int .i64 m] ++ B) ∧ Below w.heap.size w w4) := ⟨hownC, hbelow3.drew.trans (hbelC.mono nR)⟩
 have HRC : Hid ((Builtin.copy_ #[61, 61] 3 #[.slice (some ⟨w.heap.size, (i + 1) * 4, none⟩) (n - i) (cap2 - (i + 1)), .slice (some ⟨g, i * 4, none⟩) (n - i) (cap - i)]).run Tryz.prog w3.drew = .ok (goInt (n - i : Nat)) w4) := hrunC
 have mixed : Tryz.prog.follows .mixedOrders = true := by kernel_rfl
 have hmx := hc2.2
 have hc3 := hc2.1
 unfold maxLen at hmx
 have hw1 : IntKind.i64.wrap ((i : Int) + 1) = (i : Int) + 1 := by rw [IntKind.wrap_i64]; omega
 have hw2 : IntKind.i64.wrap ((n : Int) + 1) = (n : Int) + 1 := by rw [IntKind.wrap_i64]; omega
 have hw3 : IntKind.i64.wrap ((n : Int) + 1 - (i : Int)) = (n : Int) + 1 - (i : Int) := by rw [IntKind.wrap_i64]; omega
 have e1 : ¬ ((i : Int) = (n : Int)) := by omega
 have e2 : ((i : Int) == (n : Int)) = false := by simp; omega
 have e3 : (n : Int) + 1 > (cap : Int) := by omega
 have e4 : (0 : Int) ≤ (i : Int) + 1 := by omega
 have e5 : (0 : Int) ≤ (i : Int) := by omega
 have e6 : i ≤ n := by omega
 have e7 : (i : Int) ≤ (n : Int) := by omega
 have e8 : ((i : Int) + 1).toNat = i + 1 := by omega
 have e10 : ¬ (cap2 = i + 1) := by omega
 have e11 : ¬ (cap = i) := by omega
 have e12 : ¬ (cap2 = i) := by omega
 have e13 : (i : Int) + 1 ≤ (n : Int) + 1 := by omega
 have e14 : (i : Int) ≤ (n : Int) + 1 := by omega
 have e15 : (i : Int) ≤ (cap : Int) := by omega
 clear hrunC hownC hownB hownB' hownA hZ1 hZ2 hZl hbA hsA hsB hbB hbelB hsC hbC hbelC hbelow3 hc2 ho hone hone1 hsrcX c0 c1 c2 c3 hgl hii hz0 hz1 hz2
 go_enter Tryz.func132, Tryz.ntmps132
 go_wp2_with (first
  | (at_builtin; refine Lib.wpList_append_run _ rfl _ _ _ _ rfl _ _ rfl rfl _ _ hrunA ?_)
  | (at_builtin; refine wpList_copy_runI _ rfl _ _ 61 61 rfl (.slice (some ⟨w.heap.size, i * 4, none⟩) (n + 1 - i) (cap2 - i)) (.slice (some ⟨X, 0, none⟩) 1 1) rfl rfl hrunB ?_))
 go_region_law_o (refine step_copy_runI rfl _ _ 61 61 rfl (.slice (some ⟨w.heap.size, (i + 1) * 4, none⟩) (n - i) (cap2 - (i + 1))) (.slice (some ⟨g, i * 4, none⟩) (n - i) (cap - i)) (by simp [Act.eval, Act.put]) (by simp [Act.eval, Act.put]) HRC.out ?_)
 go_wp2
 go_ret
 exact ⟨cap2, rfl, HF.out⟩
set_option maxRecDepth 100000 in
set_option maxHeartbeats 4000000 in
theorem insG_grow (g n cap i : Nat) (A B : List Value) (base X : Nat) (ra : Option Addr) (rl rc : Nat) (m : Int) (ba : Option Addr) (bl bc : Nat) (w : World) (ho : w.ownsRow base 53 3 (.slice (some ⟨g, 0, none⟩) n cap) n (A ++ B)) (hA : A.length = i * 3) (hi : i < n) (hroom : cap < n + 1) (hn : n ≤ 1073741824) (c0 : w.cell? ⟨X, 0, none⟩ = some (.slice ra rl rc)) (c1 : w.cell? ⟨X, 1, none⟩ = some (.int .i64 m)) (c2 : w.cell? ⟨X, 2, none⟩ = some (.slice ba bl bc)) (hone : ∀ u ∈ B, u.oneCell' = true) :
 Calls Tryz.prog 85 #[.slice (some ⟨g, 0, none⟩) n cap, .int .i64 i, .slice (some ⟨X, 0, none⟩) 1 1] w fun e w' => ∃ cap2, e = .returned (.slice (some ⟨w.heap.size, 0, none⟩) (n + 1) cap2) ∧ w'.ownsRow base 53 3 (.slice (some ⟨w.heap.size, 0, none⟩) (n + 1) cap2) (n + 1) (A ++ [.slice ra rl rc, .int .i64 m, .slice ba bl bc] ++ B) ∧ Below w.heap.size w w' := by
 obtain ⟨i0, hii, hz0, hz1, hz2⟩ := info_parts infoG
 have hgl := ch.own_lt ho (g := g) rfl
 have hnc : n ≤ cap := by
  rcases ho.2 with ⟨hv, _⟩ | ⟨g', cap', cur, hv, h1, hg, h2, h3, h4, h5⟩
  ·cases hv
  ·cases hv; exact h2
 have hBl : B.length = (n - i) * 3 := by
  have := ho.1
  rw [List.length_append, hA] at this
  omega
 have hsrcX : ∀ j u, [.slice ra rl rc, .int .i64 m, .slice ba bl bc][j]? = some u → w.cell? ((⟨X, 0, none⟩ : Addr).add j) = some u := fun j u hu => by
  rw [ch.addr_add, Nat.zero_add]
  match j, hu with
  | 0, hu => simp at hu; subst hu; exact c0
  | 1, hu => simp at hu; subst hu; exact c1
  | 2, hu => simp at hu; subst hu; exact c2
  | j + 3, hu => simp at hu
 have hone1 : ∀ v ∈ ([.slice ra rl rc, .int .i64 m, .slice ba bl bc] : List Value), v.oneCell' = true := by intro u hu; simp at hu; rcases hu with rfl | rfl | rfl <;> rfl
 obtain ⟨cap2, w2, Z, hrunA, hownA, hZl, hbA, hsA⟩ := grow_zeros ho 26 i0 (.agg #[.slice none 0 0, .int .i64 0, .slice none 0 0]) 56 Tryz.underlying26 hii hz0 hz1 hz2 rfl 26 A B i rfl hA hi hroom (by omega) (by omega) (by decide)
 have hc2 : n + 1 ≤ cap2 ∧ cap2 ≤ maxLen := by
  rcases hownA.2 with ⟨hv, _⟩ | ⟨g', cap', cur, hv, h1, hg, h2, h3, h4, h5⟩
  ·cases hv
  ·cases hv; exact ⟨h2, h3⟩
 have hZ1 : (Z.take 3).length = 3 := by rw [List.length_take, hZl]; omega
 have hZ2 : (Z.drop 3).length = (n - i) * 3 := by rw [List.length_drop, hZl]; omega
 obtain ⟨w3, hrunB, hownB, hsB, hbB, hbelB⟩ := own_writeN hownA 26 i0 Tryz.underlying26 hii hz1 3 A (Z.take 3) (Z.drop 3) [.slice ra rl rc, .int .i64 m, .slice ba bl bc] i 1 (by rw [List.append_assoc, List.take_append_drop]) hA (by rw [hZ1]; rfl) rfl (n + 1 - i) (cap2 - i) 1 1 (Nat.min_eq_left (by omega)) ⟨X, 0, none⟩ (fun j u hu => by
  have := hsrcX j u hu
  rw [ch.addr_add] at this ⊢
  exact cL hbA this) hone1
 have hbelow3 : Below w.heap.size w w3 := hbA.trans (hbelB.mono nR)
 have hownB' : w3.drew.ownsRow base 53 3 (.slice (some ⟨w.heap.size, 0, none⟩) (n + 1) cap2) (n + 1) (A ++ [.slice ra rl rc, .int .i64 m, .slice ba bl bc] ++ Z.drop 3) := ch.own_below hownB bR.drew
 obtain ⟨w4, hrunC, hownC, hsC, hbC, hbelC⟩ := own_writeN hownB' 26 i0 Tryz.underlying26 hii hz1 3 (A ++ [.slice ra rl rc, .int .i64 m, .slice ba bl bc]) (Z.drop 3) [] B (i + 1) (n - i) (by rw [List.append_nil]) (by rw [List.length_append, hA, Nat.add_mul]; rfl) (by rw [hZ2, hBl]) hBl (n - i) (cap2 - (i + 1)) (n - i) (cap - i) (Nat.min_self _) ⟨g, i * 3, none⟩ (fun j u hu => by
  have hj : j < B.length := by
   rcases Nat.lt_or_ge j B.length with h | h
   ·exact h
   ·rw [List.getElem?_eq_none h] at hu; cases hu
  have h1 := World.ownsRow.cells ho (g := g) rfl (i * 3 + j) u (by rw [List.getElem?_append_right (by omega), hA, show i * 3 + j - i * 3 = j by omega]; exact hu)
  rw [ch.addr_add, Nat.zero_add] at h1
  rw [ch.add_at]
  exact cL (hbelow3.drew) h1) hone
 rw [List.append_nil] at hownC
 have HF : Hid (w4.ownsRow base 53 3 (.slice (some ⟨w.heap.size, 0, none⟩) (n + 1) cap2) (n + 1) (A ++ [.slice ra rl rc, .int .i64 m, .slice ba bl bc] ++ B) ∧ Below w.heap.size w w4) := ⟨hownC, hbelow3.drew.trans (hbelC.mono nR)⟩
 have HRC : Hid ((Builtin.copy_ #[26, 26] 3 #[.slice (some ⟨w.heap.size, (i + 1) * 3, none⟩) (n - i) (cap2 - (i + 1)), .slice (some ⟨g, i * 3, none⟩) (n - i) (cap - i)]).run Tryz.prog w3.drew = .ok (goInt (n - i : Nat)) w4) := hrunC
 have mixed : Tryz.prog.follows .mixedOrders = true := by kernel_rfl
 have hmx := hc2.2
 have hc3 := hc2.1
 unfold maxLen at hmx
 have hw1 : IntKind.i64.wrap ((i : Int) + 1) = (i : Int) + 1 := by rw [IntKind.wrap_i64]; omega
 have hw2 : IntKind.i64.wrap ((n : Int) + 1) = (n : Int) + 1 := by rw [IntKind.wrap_i64]; omega
 have hw3 : IntKind.i64.wrap ((n : Int) + 1 - (i : Int)) = (n : Int) + 1 - (i : Int) := by rw [IntKind.wrap_i64]; omega
 have e1 : ¬ ((i : Int) = (n : Int)) := by omega
 have e2 : ((i : Int) == (n : Int)) = false := by simp; omega
 have e3 : (n : Int) + 1 > (cap : Int) := by omega
 have e4 : (0 : Int) ≤ (i : Int) + 1 := by omega
 have e5 : (0 : Int) ≤ (i : Int) := by omega
 have e6 : i ≤ n := by omega
 have e7 : (i : Int) ≤ (n : Int) := by omega
 have e8 : ((i : Int) + 1).toNat = i + 1 := by omega
 have e10 : ¬ (cap2 = i + 1) := by omega
 have e11 : ¬ (cap = i) := by omega
 have e12 : ¬ (cap2 = i) := by omega
 have e13 : (i : Int) + 1 ≤ (n : Int) + 1 := by omega
 have e14 : (i : Int) ≤ (n : Int) + 1 := by omega
 have e15 : (i : Int) ≤ (cap : Int) := by omega
 clear hrunC hownC hownB hownB' hownA hZ1 hZ2 hZl hbA hsA hsB hbB hbelB hsC hbC hbelC hbelow3 hc2 ho hone hone1 hsrcX c0 c1 c2 hgl hii hz0 hz1 hz2
 go_enter Tryz.func85, Tryz.ntmps85
 go_wp2_with (first
  | (at_builtin; refine Lib.wpList_append_run _ rfl _ _ _ _ rfl _ _ rfl rfl _ _ hrunA ?_)
  | (at_builtin; refine wpList_copy_runI _ rfl _ _ 26 26 rfl (.slice (some ⟨w.heap.size, i * 3, none⟩) (n + 1 - i) (cap2 - i)) (.slice (some ⟨X, 0, none⟩) 1 1) rfl rfl hrunB ?_))
 go_region_law_o (refine step_copy_runI rfl _ _ 26 26 rfl (.slice (some ⟨w.heap.size, (i + 1) * 3, none⟩) (n - i) (cap2 - (i + 1))) (.slice (some ⟨g, i * 3, none⟩) (n - i) (cap - i)) (by simp [Act.eval, Act.put]) (by simp [Act.eval, Act.put]) HRC.out ?_)
 go_wp2
 go_ret
 exact ⟨cap2, rfl, HF.out⟩
end Go.Proofs.YtbfbgdinhiglaaaGreat.gr
namespace Go.Proofs.YtbfbgdinhiglaaaGreat.gr
open Go.ChangeShapes Go.WideShapes Go.ChangeAt Go.RowKit
open vl pl bt
set_option linter.unusedVariables false
set_option linter.unusedSimpArgs false
theorem insT_any (ad : Option Addr) (n cap i : Nat) (A B : List Value) (base X : Nat) (k1 k2 : Int) (ks : ByteArray) (m : Int) (w : World) (ho : w.ownsRow base 82 4 (.slice ad n cap) n (A ++ B)) (hA : A.length = i * 4) (hi : i ≤ n) (hn : n ≤ 1073741824) (hb : base ≤ w.heap.size) (hX : w.heap[X]? = some (.cells #[.int .i64 k1, .int .i64 k2, .string ks, .int .i64 m] 82 (0, 0))) (hne : some X ≠ (Value.slice ad n cap).ownBlock) (hone : ∀ u ∈ B, u.oneCell' = true) :
 Calls Tryz.prog 132 #[.slice ad n cap, .int .i64 i, .slice (some ⟨X, 0, none⟩) 1 1] w fun e w' => ∃ g cap2, e = .returned (.slice (some ⟨g, 0, none⟩) (n + 1) cap2) ∧ w'.ownsRow base 82 4 (.slice (some ⟨g, 0, none⟩) (n + 1) cap2) (n + 1) (A ++ [.int .i64 k1, .int .i64 k2, .string ks, .int .i64 m] ++ B) ∧ w.heap.size ≤ w'.heap.size ∧ (∀ b, b < w.heap.size → (Value.slice ad n cap).ownBlock ≠ some b → w'.heap[b]? = w.heap[b]?) ∧ ((Value.slice ad n cap).ownBlock = some g ∨ w.heap.size ≤ g) ∧ Below base w w' := by
 have hBl : B.length = (n - i) * 4 := by
  have := ho.1
  rw [List.length_append, hA] at this
  omega
 by_cases hin : i = n
 ·subst hin
  have hB0 : B = [] := List.length_eq_zero_iff.1 (by rw [hBl]; omega)
  subst hB0
  rw [List.append_nil] at ho
  refine (insT_end ad i cap A base X k1 k2 ks m w ho hn hb (by simp [World.cell?, hX]) (by simp [World.cell?, hX]) (by simp [World.cell?, hX]) (by simp [World.cell?, hX])).mono ?_
  rintro e w' ⟨g, cap2, rfl, h1, h2, h3, h4⟩
  refine ⟨g, cap2, rfl, by rw [List.append_nil]; exact h1, h2.size, fun b hbl hnb => h2.block b hbl (fun e => hnb e.symm), ?_, bR.grown h2 hb (fun k hk => (ch.own_lt ho hk).1)⟩
  rcases h3 with h3 | h3
  ·exact .inl h3
  ·exact .inr (by omega)
 ·rcases ho.2 with ⟨hv, h0⟩ | ⟨g, cap', cur, hv, h1, hg, h2, h3, h4, h5⟩
  ·omega
  ·cases hv
   have hlt : g < w.heap.size := (ch.own_lt ho (g := g) rfl).2
   have hXg : X ≠ g := fun e => hne (by rw [e]; rfl)
   by_cases hroom : n + 1 ≤ cap
   ·refine (insT_shift g n cap i A B base X k1 k2 ks m w ho hA (by omega) hroom hX hXg hone).mono ?_
    rintro e w' ⟨rfl, k1, k2, k3, k4⟩
    exact ⟨g, cap, rfl, k1, by omega, fun b _ hnb => k2 b (fun e => hnb (by rw [e]; rfl)), .inl rfl, k4.mono h1⟩
   ·refine (insT_grow g n cap i A B base X k1 k2 ks m w ho hA (by omega) (by omega) hn (by simp [World.cell?, hX]) (by simp [World.cell?, hX]) (by simp [World.cell?, hX]) (by simp [World.cell?, hX]) hone).mono ?_
    rintro e w' ⟨cap2, rfl, k1, k2⟩
    exact ⟨w.heap.size, cap2, rfl, k1, k2.size, fun b hbl _ => k2.block b hbl, .inr nR, k2.mono hb⟩
theorem insG_any (ad : Option Addr) (n cap i : Nat) (A B : List Value) (base X : Nat) (ra : Option Addr) (rl rc : Nat) (m : Int) (ba : Option Addr) (bl bc : Nat) (w : World) (ho : w.ownsRow base 53 3 (.slice ad n cap) n (A ++ B)) (hA : A.length = i * 3) (hi : i ≤ n) (hn : n ≤ 1073741824) (hb : base ≤ w.heap.size) (hX : w.heap[X]? = some (.cells #[.slice ra rl rc, .int .i64 m, .slice ba bl bc] 53 (0, 0))) (hne : some X ≠ (Value.slice ad n cap).ownBlock) (hone : ∀ u ∈ B, u.oneCell' = true) :
 Calls Tryz.prog 85 #[.slice ad n cap, .int .i64 i, .slice (some ⟨X, 0, none⟩) 1 1] w fun e w' => ∃ g cap2, e = .returned (.slice (some ⟨g, 0, none⟩) (n + 1) cap2) ∧ w'.ownsRow base 53 3 (.slice (some ⟨g, 0, none⟩) (n + 1) cap2) (n + 1) (A ++ [.slice ra rl rc, .int .i64 m, .slice ba bl bc] ++ B) ∧ w.heap.size ≤ w'.heap.size ∧ (∀ b, b < w.heap.size → (Value.slice ad n cap).ownBlock ≠ some b → w'.heap[b]? = w.heap[b]?) ∧ ((Value.slice ad n cap).ownBlock = some g ∨ w.heap.size ≤ g) ∧ Below base w w' := by
 have hBl : B.length = (n - i) * 3 := by
  have := ho.1
  rw [List.length_append, hA] at this
  omega
 by_cases hin : i = n
 ·subst hin
  have hB0 : B = [] := List.length_eq_zero_iff.1 (by rw [hBl]; omega)
  subst hB0
  rw [List.append_nil] at ho
  refine (insG_end ad i cap A base X ra rl rc m ba bl bc w ho hn hb (by simp [World.cell?, hX]) (by simp [World.cell?, hX]) (by simp [World.cell?, hX])).mono ?_
  rintro e w' ⟨g, cap2, rfl, h1, h2, h3, h4⟩
  refine ⟨g, cap2, rfl, by rw [List.append_nil]; exact h1, h2.size, fun b hbl hnb => h2.block b hbl (fun e => hnb e.symm), ?_, bR.grown h2 hb (fun k hk => (ch.own_lt ho hk).1)⟩
  rcases h3 with h3 | h3
  ·exact .inl h3
  ·exact .inr (by omega)
 ·rcases ho.2 with ⟨hv, h0⟩ | ⟨g, cap', cur, hv, h1, hg, h2, h3, h4, h5⟩
  ·omega
  ·cases hv
   have hlt : g < w.heap.size := (ch.own_lt ho (g := g) rfl).2
   have hXg : X ≠ g := fun e => hne (by rw [e]; rfl)
   by_cases hroom : n + 1 ≤ cap
   ·refine (insG_shift g n cap i A B base X ra rl rc m ba bl bc w ho hA (by omega) hroom hX hXg hone).mono ?_
    rintro e w' ⟨rfl, k1, k2, k3, k4⟩
    exact ⟨g, cap, rfl, k1, by omega, fun b _ hnb => k2 b (fun e => hnb (by rw [e]; rfl)), .inl rfl, k4.mono h1⟩
   ·refine (insG_grow g n cap i A B base X ra rl rc m ba bl bc w ho hA (by omega) (by omega) hn (by simp [World.cell?, hX]) (by simp [World.cell?, hX]) (by simp [World.cell?, hX]) hone).mono ?_
    rintro e w' ⟨cap2, rfl, k1, k2⟩
    exact ⟨w.heap.size, cap2, rfl, k1, k2.size, fun b hbl _ => k2.block b hbl, .inr nR, k2.mono hb⟩
theorem own_out {w : World} {base : Nat} {e : TypeId} {s n cap g : Nat} {A x C : List Value} (h : w.ownsRow base e s (.slice (some ⟨g, 0, none⟩) n cap) n (A ++ x ++ C)) (t : TypeId) (i0 : TypeInfo) (hu : Tryz.prog.underlying t = some (.slice e)) (hi : Tryz.prog.info? e = some i0) (hz1 : i0.size = s) (ty : TypeId)
 (i m : Nat) (hA : A.length = i * s) (hx : x.length = s) (hC : C.length = m * s) (hn : n = i + 1 + m) (hone : ∀ u ∈ C, u.oneCell' = true) (a : Addr) (ha : 0 < m → a = ⟨g, (i + 1) * s, none⟩) (c : Nat) :
 ∃ w1 y, (Builtin.append_ #[t, t] ty #[.slice (some ⟨g, 0, none⟩) i cap, .slice (some a) m c]).run Tryz.prog w = .ok (.slice (some ⟨g, 0, none⟩) (i + m) cap) w1 ∧ w1.ownsRow base e s (.slice (some ⟨g, 0, none⟩) n cap) n (A ++ C ++ y) ∧ y.length = s ∧ w1.heap.size = w.heap.size ∧ (∀ b, b ≠ g → w1.heap[b]? = w.heap[b]?) ∧ Below g w w1 := by
 rcases h.2 with ⟨hv, _⟩ | ⟨g', cap', cur, hv, h1, hg, h2, h3, h4, h5⟩
 ·cases hv
 ·cases hv
  have hm : n * s ≤ cap * s := Nat.mul_le_mul_right _ h2
  have hns : n * s = i * s + s + m * s := by rw [hn, Nat.add_mul, Nat.add_mul, Nat.one_mul]
  obtain ⟨S, hS⟩ : ∃ S, cur.toList = A ++ x ++ C ++ S := ⟨cur.toList.drop (n * s), by
   have e := List.take_append_drop (n * s) cur.toList
   rw [h5] at e
   exact e.symm⟩
  have hcl : cur.size = cap * s := h4
  have hsrc : ∀ j u, C[j]? = some u → w.cell? (a.add j) = some u := fun j u hu => by
   have hj : j < C.length := by
    rcases Nat.lt_or_ge j C.length with h | h
    ·exact h
    ·rw [List.getElem?_eq_none h] at hu; cases hu
   have hm0 : 0 < m := by
    rcases Nat.eq_zero_or_pos m with e | e
    ·rw [e, Nat.zero_mul] at hC; omega
    ·exact e
   rw [ha hm0, ch.add_at]
   have h9 := World.ownsRow.cells h (g := g) rfl ((i + 1) * s + j) u (by
    have hAx : (A ++ x).length = (i + 1) * s := by rw [List.length_append, hA, hx, Nat.add_mul, Nat.one_mul]
    rw [List.getElem?_append_right (by omega), hAx, show (i + 1) * s + j - (i + 1) * s = j by omega]
    exact hu)
   rw [ch.addr_add, Nat.zero_add] at h9
   exact h9
  have hrun := run_append_room (P := Tryz.prog) w t ty e i0 hu hi g i cap cur hg a m c C (by rw [hz1]; exact hC) hsrc hone (by omega) (by rw [hz1, hC, hcl]; omega)
  rw [hz1] at hrun
  have hyl : ((x ++ C).drop C.length).length = s := by rw [List.length_drop, List.length_append, hx]; omega
  have hnew : cur.toList.take (i * s) ++ C ++ cur.toList.drop (i * s + C.length) = (A ++ C ++ (x ++ C).drop C.length) ++ S := by
   rw [hS, ← hA]
   have e1 : (A ++ x ++ C ++ S).take A.length = A := by rw [List.append_assoc, List.append_assoc]; exact List.take_left
   have e2 : (A ++ x ++ C ++ S).drop (A.length + C.length) = (x ++ C).drop C.length ++ S := by
    rw [List.append_assoc A, List.append_assoc A, List.drop_append, List.drop_append_of_le_length (by rw [List.length_append]; omega), List.drop_eq_nil_of_le (by omega), Nat.add_sub_cancel_left, List.nil_append]
   rw [e1, e2]
   simp only [List.append_assoc]
  rw [hnew] at hrun
  have hsz : ((A ++ C ++ (x ++ C).drop C.length) ++ S).length = cur.size := by
   have h9 : cur.size = cur.toList.length := Array.length_toList.symm
   rw [h9, hS]
   simp only [List.length_append, hyl, hx]
   omega
  have hnl : (A ++ C ++ (x ++ C).drop C.length).length = n * s := by rw [List.length_append, List.length_append, hyl, hA, hC]; omega
  refine ⟨_, (x ++ C).drop C.length, hrun, ⟨hnl, .inr ⟨g, cap, _, rfl, h1, setRow_heap w g cur _ _ _ hg, h2, h3, ?_, ?_⟩⟩, hyl, by simp [World.setRow], fun b hb => setRow_other w g b _ hb, ⟨rfl, rfl, rfl, by simp [World.setRow], fun k hk => setRow_other w g k _ (by omega)⟩⟩
  ·rw [List.size_toArray, hsz]; exact h4
  ·rw [← hnl]
   exact List.take_left
theorem own_cut {w : World} {base : Nat} {e : TypeId} {s n cap g : Nat} {D y : List Value} (h : w.ownsRow base e s (.slice (some ⟨g, 0, none⟩) (n + 1) cap) (n + 1) (D ++ y)) (t : TypeId) (i0 : TypeInfo) (z : Value) (hu : Tryz.prog.underlying t = some (.slice e)) (hi : Tryz.prog.info? e = some i0) (hz0 : i0.zero = some z) (hzs : z.cells.size = s) (hz1 : (Builtin.zeroCells z.cells 1).toList = z.cells.toList) (hzo : ∀ v ∈ z.cells.toList, v.oneCell' = true) (ty : TypeId)
 (hD : D.length = n * s) (hy : y.length = s) (c : Nat) :
 ∃ w1, (Builtin.clear_ #[t] ty #[.slice (some ⟨g, n * s, none⟩) 1 c]).run Tryz.prog w = .ok (.tuple #[]) w1 ∧ w1.ownsRow base e s (.slice (some ⟨g, 0, none⟩) n cap) n D ∧ w1.heap.size = w.heap.size ∧ (∀ b, b ≠ g → w1.heap[b]? = w.heap[b]?) ∧ Below g w w1 := by
 rcases h.2 with ⟨hv, _⟩ | ⟨g', cap', cur, hv, h1, hg, h2, h3, h4, h5⟩
 ·cases hv
 ·cases hv
  have hm : (n + 1) * s ≤ cap * s := Nat.mul_le_mul_right _ h2
  have hns : (n + 1) * s = n * s + s := by rw [Nat.add_mul, Nat.one_mul]
  obtain ⟨S, hS⟩ : ∃ S, cur.toList = D ++ y ++ S := ⟨cur.toList.drop ((n + 1) * s), by
   have e := List.take_append_drop ((n + 1) * s) cur.toList
   rw [h5] at e
   exact e.symm⟩
  have hzl : z.cells.toList.length = s := by rw [Array.length_toList]; exact hzs
  have hst := run_storeCells_at Tryz.prog g (n * s) e z.cells.toList 0 cur w hg (by rw [hzl, h4]; omega) hzo
  rw [Nat.add_zero] at hst
  have hrun : (Builtin.clear_ #[t] ty #[.slice (some ⟨g, n * s, none⟩) 1 c]).run Tryz.prog w = .ok (.tuple #[]) (w.setRow g (cur.toList.take (n * s) ++ z.cells.toList ++ cur.toList.drop (n * s + z.cells.toList.length)).toArray) := by
   simp [Builtin.clear_, run_underlying hu, zeroValue, typeInfo, hi, hz0, hz1, hst]
  have hnew : cur.toList.take (n * s) ++ z.cells.toList ++ cur.toList.drop (n * s + z.cells.toList.length) = D ++ (z.cells.toList ++ S) := by
   rw [hS, ← hD, hzl, ← hy]
   have e1 : (D ++ y ++ S).take D.length = D := by rw [List.append_assoc]; exact List.take_left
   have e2 : (D ++ y ++ S).drop (D.length + y.length) = S := by rw [← List.length_append]; exact List.drop_left
   rw [e1, e2, List.append_assoc]
  have hsz : (D ++ (z.cells.toList ++ S)).length = cur.size := by
   have h9 : cur.size = cur.toList.length := Array.length_toList.symm
   rw [h9, hS]
   simp only [List.length_append, hzl, hy]
   omega
  rw [hnew] at hrun
  refine ⟨_, hrun, ⟨hD, .inr ⟨g, cap, _, rfl, h1, setRow_heap w g cur _ _ _ hg, by omega, h3, ?_, ?_⟩⟩, by simp [World.setRow], fun b hb => setRow_other w g b _ hb, ⟨rfl, rfl, rfl, by simp [World.setRow], fun k hk => setRow_other w g k _ (by omega)⟩⟩
  ·rw [List.size_toArray, hsz]; exact h4
  ·rw [← hD]
   exact List.take_left
end Go.Proofs.YtbfbgdinhiglaaaGreat.gr
