import Derived.Test.YtbfbgdinhiglaaaGreatS5
import Derived.Test.YtbfbgdinhiglaaaGreatMgValB
import Derived.Maps.OwnSet
import Derived.Maps.Ext
import Derived.Deep.QuietTactic
import Derived.BigQuiet
import Derived.Deep.AppendLies
import Derived.Deep.RegionLaw
/- Several texts in one: ChgMap, ChgSort, ChgFrame, ChgView, ChgGather, ChgTell. -/
/- The counts of a view as a map from keys: what is looked up, put and struck, and what add does. -/
namespace Go.Proofs.YtbfbgdinhiglaaaGreat.ch
open Go.ChangeShapes Go.WideShapes Go.ChangeAt Go.RowKit Go.Maps
open Go.WideAt Go.WideElems Go.WideMaps
set_option linter.unusedVariables false
set_option linter.unusedSimpArgs false

abbrev KV := List (List UInt8 × Int)
def insK (x : List UInt8 × Int) : KV → KV
  | [] => [x]
  | y :: r => if bytesBefore x.1 y.1 then x :: y :: r else y :: insK x r
def delK (kv : KV) (k : List UInt8) : KV := kv.filter fun p => !(p.1 == k)
def putK (kv : KV) (k : List UInt8) (n : Int) : KV := insK (k, n) (delK kv k)
def getK (kv : KV) (k : List UInt8) : Int := match kv.find? (fun p => p.1 == k) with | some p => p.2 | none => 0
def ent (p : List UInt8 × Int) : Lit × DataW Unit := (.string p.1, .lit (.int .i64 p.2))
def toD (kv : KV) : DataW Unit := .map (kv.map ent)

theorem ent_ins (x : List UInt8 × Int) (l : KV) : (insK x l).map ent = DataW.insert (ent x) (l.map ent) := by
  induction l with
  | nil => rfl
  | cons y r ih =>
    rw [insK, List.map_cons, DataW.insert]
    have e : (ent x).1.before (ent y).1 = bytesBefore x.1 y.1 := rfl
    rw [e]
    split
    · rfl
    · rw [List.map_cons, ih]
theorem ent_del (l : KV) (k : List UInt8) : (delK l k).map ent = (l.map ent).filter fun p => !p.1.sameKey (.string k) := by
  unfold delK
  rw [List.filter_map]
  rfl
theorem toD_put (kv : KV) (k : List UInt8) (n : Int) : (toD kv).put (.string k) (.lit (.int .i64 n)) = toD (putK kv k n) := by
  unfold toD putK
  rw [ent_ins, ent_del]
  rfl
theorem toD_del (kv : KV) (k : List UInt8) : (toD kv).del (.string k) = toD (delK kv k) := by
  unfold toD
  rw [ent_del]
  rfl
theorem toD_at (kv : KV) (k : List UInt8) : (toD kv).atKey (.string k) (.lit (.int .i64 0)) = .lit (.int .i64 (getK kv k)) := by
  unfold toD DataW.atKey getK
  simp only [List.find?_map]
  have e : ((fun p : Lit × DataW Unit => p.1.sameKey (.string k)) ∘ ent) = fun p => p.1 == k := rfl
  rw [e]
  cases kv.find? (fun p => p.1 == k) <;> rfl
theorem toD_size (kv : KV) : Maps.size (toD kv) = kv.length := by
  unfold toD; rw [Maps.size_eq, List.length_map]

theorem law : Keyed Tryz.prog 9 := string_keyed Tryz.underlying9
theorem zeroE (w : World) : (zeroValue 3).run Tryz.prog w = .ok (.int .i64 0) w := by kernel_rfl
/-- block B is a map that holds these counts -/
def cmap (w : World) (B nn : Nat) (kv : KV) : Prop := w.ownsMap Tryz.prog 9 (plainElem (H := Unit) Tryz.prog 3) B nn (toD kv)
theorem cmap_at {kv : KV} {k : List UInt8} {c : Int} (h : (toD kv).atKey (.string k) (.lit (.int .i64 0)) = .lit (.int .i64 c)) : c = getK kv k := by
  rw [toD_at] at h
  injection h with h
  injection h with _ h
  exact h.symm

/-- what add answers, and what it leaves -/
def addE (kv : KV) (k : List UInt8) (n : Int) : Int :=
  if getK kv k + n < 0 then 9 else if 1073741824 < getK kv k + n then 2 else if getK kv k + n = 0 then 0 else if getK kv k = 0 ∧ kv.length = 4096 then 2 else 0
def addV (kv : KV) (k : List UInt8) (n : Int) : KV :=
  if getK kv k + n < 0 then kv else if 1073741824 < getK kv k + n then kv else if getK kv k + n = 0 then delK kv k else if getK kv k = 0 ∧ kv.length = 4096 then kv else putK kv k (getK kv k + n)

set_option maxHeartbeats 2000000 in
theorem add_any (B nn : Nat) (kv : KV) (k : ByteArray) (n : Int) (w : World) (hm : cmap w B nn kv) (hk : k.size ≤ maxLen) (hnn : nn < maxLen)
    (h1 : -1152921504606846976 ≤ getK kv k.data.toList) (h2 : getK kv k.data.toList ≤ 1152921504606846976) (n1 : -1152921504606846976 ≤ n) (n2 : n ≤ 1152921504606846976) (hlen : kv.length ≤ 1152921504606846976) :
    Calls Tryz.prog 47 #[.map (some B), .string k, .int .i64 n] w fun e w' => e = .returned (.int .i64 (addE kv k.data.toList n)) ∧ cmap w' B (nn + 1) (addV kv k.data.toList n) ∧ w.grownBy w' (some B) := by
  have HM : Hid (cmap w B nn kv) := hm
  obtain ⟨h, hh⟩ : ∃ h, getK kv k.data.toList = h := ⟨_, rfl⟩
  have HH : Hid (getK kv k.data.toList = h) := hh
  rw [hh] at h1 h2
  unfold addE addV
  rw [hh]
  clear hh hm
  by_cases c1 : h + n < 0
  · rw [if_pos c1, if_pos c1]
    go_enter Tryz.func47, Tryz.ntmps47
    go_wp2_with (at_lookup; refine wpList_lookup_own_int _ rfl (.tmp 9) (.tmp 10) 84 rfl 9 3 .i64 law Tryz.underlying84 Tryz.underlying3 (zeroE _) B nn _ rfl HM.out _ (.string k.data.toList) rfl (keyOf_string_mk Tryz.underlying9 hk) ?_; intro c hat hwc; have hc : c = h := (cmap_at hat).trans HH.out; clear hat; subst hc)
    go_ret
    exact ⟨rfl, HM.out.mono (by omega), World.grownBy.refl _ _⟩
  · rw [if_neg c1, if_neg c1]
    by_cases c2 : 1073741824 < h + n
    · rw [if_pos c2, if_pos c2]
      go_enter Tryz.func47, Tryz.ntmps47
      go_wp2_with (at_lookup; refine wpList_lookup_own_int _ rfl (.tmp 9) (.tmp 10) 84 rfl 9 3 .i64 law Tryz.underlying84 Tryz.underlying3 (zeroE _) B nn _ rfl HM.out _ (.string k.data.toList) rfl (keyOf_string_mk Tryz.underlying9 hk) ?_; intro c hat hwc; have hc : c = h := (cmap_at hat).trans HH.out; clear hat; subst hc)
      go_ret
      exact ⟨rfl, HM.out.mono (by omega), World.grownBy.refl _ _⟩
    · rw [if_neg c2, if_neg c2]
      by_cases c3 : h + n = 0
      · rw [if_pos c3, if_pos c3]
        have c3' : (h + n == 0) = true := by rw [beq_iff_eq]; exact c3
        have HC3 : Hid (h + n = 0) := c3
        clear c3
        go_enter Tryz.func47, Tryz.ntmps47
        go_wp2_with (first
          | (at_lookup; refine wpList_lookup_own_int _ rfl (.tmp 9) (.tmp 10) 84 rfl 9 3 .i64 law Tryz.underlying84 Tryz.underlying3 (zeroE _) B nn _ rfl HM.out _ (.string k.data.toList) rfl (keyOf_string_mk Tryz.underlying9 hk) ?_; intro c hat hwc; have hc : c = h := (cmap_at hat).trans HH.out; clear hat; subst hc)
          | (at_delete; refine wpList_delete_own _ rfl (.tmp 24) (.tmp 25) 84 9 rfl 3 law Tryz.underlying84 _ B nn _ rfl HM.out _ (.string k.data.toList) rfl (keyOf_string_mk Tryz.underlying9 hk) ?_; intro w1 hown1 hturn1))
        go_ret
        exact ⟨rfl, by rw [toD_del] at hown1; exact hown1.mono (by omega), hturn1.grown⟩
      · rw [if_neg c3, if_neg c3]
        have c3' : (h + n == 0) = false := by rw [beq_eq_false_iff_ne]; exact c3
        by_cases c4 : h = 0
        · have c4' : (h == 0) = true := by rw [beq_iff_eq]; exact c4
          have HC4 : Hid (h = 0) := c4
          clear c4
          have hlx := fun ty => HM.out.len Tryz.underlying84 ty
          simp only [toD_size] at hlx
          by_cases c5 : kv.length = 4096
          · have c5' : ((kv.length : Int) == 4096) = true := by rw [beq_iff_eq]; omega
            rw [if_pos ⟨HC4.out, c5⟩, if_pos ⟨HC4.out, c5⟩]
            clear c5
            go_enter Tryz.func47, Tryz.ntmps47
            go_wp2_with (first
              | (at_lookup; refine wpList_lookup_own_int _ rfl (.tmp 9) (.tmp 10) 84 rfl 9 3 .i64 law Tryz.underlying84 Tryz.underlying3 (zeroE _) B nn _ rfl HM.out _ (.string k.data.toList) rfl (keyOf_string_mk Tryz.underlying9 hk) ?_; intro c hat hwc; have hc : c = h := (cmap_at hat).trans HH.out; clear hat; subst hc))
            go_ret
            exact ⟨rfl, HM.out.mono (by omega), World.grownBy.refl _ _⟩
          · have c5' : ((kv.length : Int) == 4096) = false := by rw [beq_eq_false_iff_ne]; omega
            rw [if_neg (fun h => c5 h.2), if_neg (fun h => c5 h.2)]
            go_enter Tryz.func47, Tryz.ntmps47
            go_wp2_with (first
              | (at_lookup; refine wpList_lookup_own_int _ rfl (.tmp 9) (.tmp 10) 84 rfl 9 3 .i64 law Tryz.underlying84 Tryz.underlying3 (zeroE _) B nn _ rfl HM.out _ (.string k.data.toList) rfl (keyOf_string_mk Tryz.underlying9 hk) ?_; intro c hat hwc; have hc : c = h := (cmap_at hat).trans HH.out; clear hat; subst hc)
              | (at_mapUpdate; refine wpList_mapUpdate_own _ rfl (.tmp 34) (.tmp 35) (.tmp 36) 84 rfl 9 3 law Tryz.underlying84 _ B nn _ rfl HM.out hnn _ _ (.string k.data.toList) rfl rfl (keyOf_string_mk Tryz.underlying9 hk) _ [] (plainElem_int Tryz.underlying3 (WalkArith.wf_i64 (by omega))) ?_; intro w1 hown1 hgrow1))
            go_ret
            exact ⟨rfl, by rw [toD_put] at hown1; exact hown1, hgrow1⟩
        · have c4' : (h == 0) = false := by rw [beq_eq_false_iff_ne]; exact c4
          rw [if_neg (fun h => c4 h.1), if_neg (fun h => c4 h.1)]
          go_enter Tryz.func47, Tryz.ntmps47
          go_wp2_with (first
            | (at_lookup; refine wpList_lookup_own_int _ rfl (.tmp 9) (.tmp 10) 84 rfl 9 3 .i64 law Tryz.underlying84 Tryz.underlying3 (zeroE _) B nn _ rfl HM.out _ (.string k.data.toList) rfl (keyOf_string_mk Tryz.underlying9 hk) ?_; intro c hat hwc; have hc : c = h := (cmap_at hat).trans HH.out; clear hat; subst hc)
            | (at_mapUpdate; refine wpList_mapUpdate_own _ rfl (.tmp 34) (.tmp 35) (.tmp 36) 84 rfl 9 3 law Tryz.underlying84 _ B nn _ rfl HM.out hnn _ _ (.string k.data.toList) rfl rfl (keyOf_string_mk Tryz.underlying9 hk) _ [] (plainElem_int Tryz.underlying3 (WalkArith.wf_i64 (by omega))) ?_; intro w1 hown1 hgrow1))
          go_ret
          exact ⟨rfl, by rw [toD_put] at hown1; exact hown1, hgrow1⟩
end Go.Proofs.YtbfbgdinhiglaaaGreat.ch

/- The keys of counts, sorted: what maps.Keys and slices.Sorted hand back for a map that holds rising counts. -/
namespace Go.Proofs.YtbfbgdinhiglaaaGreat.ch
open Go.ChangeShapes Go.WideShapes Go.ChangeAt Go.RowKit Go.Maps Go.Sort
set_option linter.unusedVariables false
set_option linter.unusedSimpArgs false

/-- the keys rise -/
def rising (kv : KV) : Prop := kv.Pairwise fun p q => bytesBefore p.1 q.1 = true
theorem before_lt : ∀ (a b : List UInt8), bytesBefore a b = decide (a < b)
  | [], [] => by simp [bytesBefore]
  | [], _ :: _ => by simp [bytesBefore]
  | _ :: _, [] => by simp [bytesBefore]
  | a :: x, b :: y => by
    rw [bytesBefore, before_lt x y]
    simp only [List.cons_lt_cons_iff]
    by_cases h1 : a < b <;> by_cases h2 : a = b <;> by_cases h3 : x < y <;> simp [h1, h2, h3]
theorem strKeys_toD (kv : KV) : strKeys (toD kv) = kv.map (·.1) := by
  show (kv.map ent).map (fun p => strOf p.1) = kv.map (·.1)
  rw [List.map_map]
  rfl
theorem sorted_keys {kv : KV} (hr : rising kv) {ss : List (List UInt8)} (h : ss.Perm (strKeys (toD kv))) : ss.mergeSort (fun x y => decide (x ≤ y)) = kv.map (·.1) := by
  have e := mergeSort_of_perm h
  rw [strKeys_toD] at e
  refine e.trans ?_
  refine List.mergeSort_of_pairwise ?_
  rw [List.pairwise_map]
  refine hr.imp ?_
  intro p q hpq
  rw [before_lt] at hpq
  exact decide_eq_true (List.le_of_lt (of_decide_eq_true hpq))

theorem keys_any (B : Nat) (w : World) : Calls Tryz.prog 134 #[.map (some B)] w fun e w' => e = .returned (.func (.func 163) #[] #[.pointer (some ⟨w.heap.size, 0, none⟩)]) ∧ w' = w.alloc (.cells #[.map (some B)] 84) :=
  callsIn_wide.1 (Tryz.maps_Keys_134 (some B) w)
theorem sorted_any (B nn : Nat) (kv : KV) (w : World) (hm : cmap w B nn kv) (hr : rising kv) (hlen : kv.length ≤ 1000000) :
    Calls Tryz.prog 53 #[.func (.func 163) #[] #[.pointer (some ⟨w.heap.size, 0, none⟩)]] (w.alloc (.cells #[.map (some B)] 84))
      fun e w' => (∃ v, e = .returned v ∧ w'.ownsRow (w.heap.size + 1) 9 1 v kv.length ((kv.map (·.1)).map encStr)) ∧ Below (w.heap.size + 1) (w.alloc (.cells #[.map (some B)] 84)) w' := by
  have h := Tryz.slices_Sorted_keys_53_134 B nn (toD kv) (plainElem (H := Unit) Tryz.prog 3) w hm (by rw [toD_size]; unfold maxLen; omega) (by rw [toD_size]; omega)
  refine (callsIn_wide.1 h).mono ?_
  rintro e w' ⟨v, ss, he, hp, hrow, hnil, hb⟩
  have hlen2 : ss.length = kv.length := by rw [hp.length_eq, strKeys_toD, List.length_map]
  rw [sorted_keys hr hp, hlen2] at hrow
  simp only [World.size_alloc] at hrow hb
  exact ⟨⟨v, he, hrow⟩, hb⟩
end Go.Proofs.YtbfbgdinhiglaaaGreat.ch

/- Counts in memory stay what they are. -/
namespace Go.Proofs.YtbfbgdinhiglaaaGreat.ch
open Go.ChangeShapes Go.WideShapes Go.ChangeAt Go.RowKit Go.Maps Go.Sort Go.WideMaps
set_option linter.unusedVariables false
set_option linter.unusedSimpArgs false

theorem cmap_below {w w' : World} {B nn : Nat} {kv : KV} (h : cmap w B nn kv) (hb : Below w.heap.size w w') : cmap w' B nn kv := by
  obtain ⟨es, clock, h1, h2, h3, h4⟩ := h
  have hlt : B < w.heap.size := by
    rcases Nat.lt_or_ge B w.heap.size with hlt | hge
    · exact hlt
    · rw [Array.getElem?_eq_none hge] at h1; cases h1
  exact ⟨es, clock, by rw [hb.block B hlt]; exact h1, h2, h3, h4⟩
theorem cmap_alloc {w : World} {B nn : Nat} {kv : KV} (h : cmap w B nn kv) (o : Obj) : cmap (w.alloc o) B nn kv := cmap_below h ((Below.refl _ _).alloc (Nat.le_refl _) o)
theorem cmap_lt {w : World} {B nn : Nat} {kv : KV} (h : cmap w B nn kv) : B < w.heap.size := by
  obtain ⟨es, clock, h1, h2, h3, h4⟩ := h
  rcases Nat.lt_or_ge B w.heap.size with hlt | hge
  · exact hlt
  · rw [Array.getElem?_eq_none hge] at h1; cases h1

theorem less_lt : ∀ (a b : List UInt8), Op.bytesLess a b = decide (a < b)
  | [], [] => by simp [Op.bytesLess]
  | _ :: _, [] => by simp [Op.bytesLess]
  | [], _ :: _ => by simp [Op.bytesLess]
  | a :: x, b :: y => by
    rw [Op.bytesLess, less_lt x y]
    simp only [List.cons_lt_cons_iff]
    by_cases h1 : a < b <;> by_cases h2 : a = b <;> by_cases h3 : x < y <;> simp [h1, h2, h3]
end Go.Proofs.YtbfbgdinhiglaaaGreat.ch

/- Views in memory; gather lays a view's counts into a map, or tells that the view is not right. -/
namespace Go.Proofs.YtbfbgdinhiglaaaGreat.ch
open Go.ChangeShapes Go.WideShapes Go.ChangeAt Go.RowKit Go.Maps Go.WideMaps
open vl
set_option linter.unusedVariables false
set_option linter.unusedSimpArgs false

/-- a row of a view, and how often it stands there -/
structure Cnt where
  r : List Cel
  n : Int
instance : Inhabited Cnt := ⟨⟨[], 0⟩⟩
def viewAt (w : World) (a : Option Addr) (v : List Cnt) : Prop :=
  ∀ i, i < v.length → ∃ b off ra rc, a = some ⟨b, off, none⟩ ∧ w.cell? ⟨b, off + i * 2, none⟩ = some (.slice ra (v.getD i default).r.length rc) ∧ vl.rowAt w ra (v.getD i default).r ∧ w.cell? ⟨b, off + i * 2 + 1, none⟩ = some (.int .i64 (v.getD i default).n)
def wfView (v : List Cnt) : Prop := ∀ c ∈ v, wfRow c.r ∧ c.r.length ≤ 9223372036854775807 ∧ (-9223372036854775808 ≤ c.n ∧ c.n ≤ 9223372036854775807)
theorem wfv_at {v : List Cnt} (h : wfView v) (k : Nat) (hk : k < v.length) : wfRow (v.getD k default).r ∧ (v.getD k default).r.length ≤ 9223372036854775807 ∧ (-9223372036854775808 ≤ (v.getD k default).n ∧ (v.getD k default).n ≤ 9223372036854775807) :=
  h _ (by simp [List.getD_eq_getElem?_getD, hk])
theorem viewAt_below {w w' : World} {a : Option Addr} {v : List Cnt} (h : viewAt w a v) (hb : Below w.heap.size w w') : viewAt w' a v := by
  intro i hi
  obtain ⟨b, o, ra, rc, e, x1, x2, x3⟩ := h i hi
  exact ⟨b, o, ra, rc, e, cell_later hb x1, rowAt_below x2 hb, cell_later hb x3⟩

def okAt (v : List Cnt) (i : Nat) : Prop :=
  keyErr (v.getD i default).r = 0 ∧ 1 ≤ (v.getD i default).n ∧ (v.getD i default).n ≤ 1073741824 ∧ (0 < i → cmpRows (v.getD (i - 1) default).r (v.getD i default).r < 0)
def viewOk (v : List Cnt) : Prop := v.length ≤ 4096 ∧ ∀ i, i < v.length → okAt v i
instance (v : List Cnt) (i : Nat) : Decidable (okAt v i) := by unfold okAt; infer_instance
instance (v : List Cnt) : Decidable (viewOk v) := by unfold viewOk; infer_instance
def viewErr (v : List Cnt) : Int := if 4096 < v.length then 2 else if viewOk v then 0 else 1
theorem viewErr_many {v : List Cnt} (h : 4096 < v.length) : viewErr v = 2 := by unfold viewErr; rw [if_pos h]
theorem viewErr_ok {v : List Cnt} (h : viewOk v) : viewErr v = 0 := by
  have h1 := h.1
  unfold viewErr; rw [if_neg (by omega), if_pos h]
theorem viewErr_bad {v : List Cnt} (h1 : ¬ 4096 < v.length) (i : Nat) (hi : i < v.length) (h : ¬ okAt v i) : viewErr v = 1 := by
  unfold viewErr; rw [if_neg h1, if_neg (fun hv => h (hv.2 i hi))]

/-- the counts of a view, by keys -/
def kvOf (v : List Cnt) : KV := v.map fun c => (encR c.r, c.n)
theorem putK_last {kv : KV} {k : List UInt8} {n : Int} (h : ∀ p ∈ kv, bytesBefore p.1 k = true) : putK kv k n = kv ++ [(k, n)] := by
  have hd : delK kv k = kv := by
    unfold delK
    rw [List.filter_eq_self]
    intro p hp
    have h1 := h p hp
    by_cases e : p.1 = k
    · rw [e, before_lt] at h1
      exact absurd (of_decide_eq_true h1) (List.lt_irrefl k)
    · simpa using e
  unfold putK
  rw [hd]
  clear hd
  induction kv with
  | nil => rfl
  | cons y r ih =>
    rw [insK]
    have h1 := h y (List.mem_cons_self ..)
    have h2 : bytesBefore k y.1 = false := by
      rw [before_lt] at h1 ⊢
      exact decide_eq_false (List.lt_asymm (of_decide_eq_true h1))
    rw [h2, if_neg (by decide), ih (fun p hp => h p (List.mem_cons_of_mem _ hp))]
    rfl
theorem kvOf_snoc (v : List Cnt) (c : Cnt) : kvOf (v ++ [c]) = kvOf v ++ [(encR c.r, c.n)] := by simp [kvOf]
theorem takeV (v : List Cnt) (k : Nat) (h : k < v.length) : v.take (k + 1) = v.take k ++ [v.getD k default] := by
  rw [List.take_succ_eq_append_getElem h]; simp [List.getD_eq_getElem?_getD, h]

theorem before_of_cmp {a b : List Cel} (ha : rowOk a) (hb : rowOk b) (h : cmpRows a b < 0) : bytesBefore (encR a) (encR b) = true := by
  have h1 := cmpB_rows a b ha.2 hb.2
  have h2 := less_cmp (encR a) (encR b)
  rw [before_lt]
  rw [h1] at h2
  rw [h2] at h
  split at h
  · rename_i hl
    rw [less_lt] at hl
    exact hl
  · split at h <;> omega

theorem ok_row {v : List Cnt} {i : Nat} (hw : wfView v) (hi : i < v.length) (h : okAt v i) : rowOk (v.getD i default).r := by
  have h1 := h.1
  unfold keyErr at h1
  split at h1
  · cases h1
  · rename_i h8
    exact ⟨by omega, fun c hc => ⟨all_ok h1 c hc, (wfv_at hw i hi).1 c hc⟩⟩
theorem before_trans {a b c : List UInt8} (h1 : bytesBefore a b = true) (h2 : bytesBefore b c = true) : bytesBefore a c = true := by
  rw [before_lt] at *
  exact decide_eq_true (List.lt_trans (of_decide_eq_true h1) (of_decide_eq_true h2))
/-- the keys of a right view rise -/
theorem kv_before {v : List Cnt} (hw : wfView v) (k : Nat) (hk : k < v.length) (h : ∀ i, i ≤ k → okAt v i) : ∀ i, i < k → bytesBefore (encR (v.getD i default).r) (encR (v.getD k default).r) = true := by
  induction k with
  | zero => intro i hi; exact absurd hi (Nat.not_lt_zero i)
  | succ k ih =>
    intro i hi
    have hstep : bytesBefore (encR (v.getD k default).r) (encR (v.getD (k + 1) default).r) = true := by
      have h1 := h (k + 1) (Nat.le_refl _)
      exact before_of_cmp (ok_row hw (by omega) (h k (by omega))) (ok_row hw hk h1) (by have := h1.2.2.2 (by omega); simpa using this)
    rcases Nat.lt_succ_iff_lt_or_eq.1 hi with h1 | h1
    · exact before_trans (ih (by omega) (fun j hj => h j (by omega)) i h1) hstep
    · rw [h1]; exact hstep
theorem kv_all {v : List Cnt} (hw : wfView v) (k : Nat) (hk : k < v.length) (h : ∀ i, i ≤ k → okAt v i) : ∀ p ∈ kvOf (v.take k), bytesBefore p.1 (encR (v.getD k default).r) = true := by
  intro p hp
  unfold kvOf at hp
  obtain ⟨c, hc, rfl⟩ := List.mem_map.1 hp
  obtain ⟨i, hi, rfl⟩ := List.getElem_of_mem hc
  rw [List.length_take] at hi
  have e : (v.take k)[i]'(by rw [List.length_take]; omega) = v.getD i default := by
    rw [List.getElem_take]
    simp [List.getD_eq_getElem?_getD, show i < v.length by omega]
  rw [e]
  exact kv_before hw k hk h i (by omega)
theorem kv_step {v : List Cnt} (hw : wfView v) (k : Nat) (hk : k < v.length) (h : ∀ i, i ≤ k → okAt v i) : putK (kvOf (v.take k)) (encR (v.getD k default).r) (v.getD k default).n = kvOf (v.take (k + 1)) := by
  rw [putK_last (kv_all hw k hk h), takeV v k hk, kvOf_snoc]
theorem kv_rising {v : List Cnt} (hw : wfView v) (h : viewOk v) : rising (kvOf v) := by
  unfold rising kvOf
  rw [List.pairwise_map, List.pairwise_iff_getElem]
  intro i j hi hj hij
  have e1 : v[i] = v.getD i default := by simp [List.getD_eq_getElem?_getD, hi]
  have e2 : v[j] = v.getD j default := by simp [List.getD_eq_getElem?_getD, hj]
  rw [e1, e2]
  exact kv_before hw j hj (fun m hm => h.2 m (by omega)) i hij
end Go.Proofs.YtbfbgdinhiglaaaGreat.ch

/- gather: the counts of a view in a map of one's own, or what is wrong with the view. -/
namespace Go.Proofs.YtbfbgdinhiglaaaGreat.ch
open Go.ChangeShapes Go.WideShapes Go.ChangeAt Go.RowKit Go.Maps Go.WideMaps
open vl
set_option linter.unusedVariables false
set_option linter.unusedSimpArgs false

theorem make_map (n : Int) (w : World) : (Instr.makeMap 84 (some (.int .i64 n))).run Tryz.prog w = .ok (.map (some w.heap.size)) (w.alloc (.map #[] 0)) := by
  unfold Instr.makeMap
  simp [run_underlying Tryz.underlying84, go_sem, asInt, Result.andThen]
theorem cmap_made (w : World) : cmap (w.alloc (.map #[] 0)) w.heap.size 0 [] := World.ownsMap_made _ _ _ _
/-- what was put in -/
theorem cmap_put {w' : World} {B nn : Nat} {kv : KV} {k : List UInt8} {n : Int} (h : w'.ownsMap Tryz.prog 9 (plainElem (H := Unit) Tryz.prog 3) B (nn + 1) ((toD kv).put (.string k) (.lit (.int .i64 n)))) : cmap w' B (nn + 1) (putK kv k n) := by
  rw [toD_put] at h; exact h

theorem vl_rowOk {r : List Cel} (h : keyErr r = 0) (hw : wfRow r) : rowOk r := by
  unfold keyErr at h
  split at h
  · cases h
  · rename_i h8
    exact ⟨by omega, fun c hc => ⟨all_ok h c hc, hw c hc⟩⟩

theorem upto_succ {p : Nat → Prop} {j : Nat} (h : ∀ i, i < j → p i) (hj : p j) : ∀ i, i ≤ j → p i := fun i hi => by
  rcases Nat.lt_or_ge i j with h1 | h1
  · exact h i h1
  · rw [show i = j by omega]; exact hj

theorem wrap_is (x : Int) : IntKind.i64.wrap x = (x + 9223372036854775808) % 18446744073709551616 - 9223372036854775808 := by
  simp only [IntKind.wrap, IntKind.signed, IntKind.bits]
  simp
  split <;> omega

def gatherRes (v : List Cnt) (base : Nat) (e : Ending) (w' : World) : Prop :=
  (viewErr v = 0 ∧ viewOk v ∧ ∃ B, e = .returned (.tuple #[.map (some B), .int .i64 0]) ∧ base ≤ B ∧ cmap w' B v.length (kvOf v)) ∨
  (viewErr v ≠ 0 ∧ e = .returned (.tuple #[.map none, .int .i64 (viewErr v)]))
theorem ret_map {a b : Int} (h : a = b) : Ending.returned (.tuple #[.map none, .int .i64 a]) = .returned (.tuple #[.map none, .int .i64 b]) := by rw [h]

attribute [local go_sem ↓] Go.wp_at_zero Go.wp_at_succ
set_option maxRecDepth 100000 in
set_option maxHeartbeats 8000000 in
theorem gather_any (a : Option Addr) (cap : Nat) (v : List Cnt) (w : World) (hv : viewAt w a v) (hw : wfView v) (hl : v.length ≤ 9223372036854775807) :
    Calls Tryz.prog 45 #[.slice a v.length cap] w fun e w' => gatherRes v w.heap.size e w' ∧ Below w.heap.size w w' := by
  obtain ⟨n, hn⟩ : ∃ n, v.length = n := ⟨_, rfl⟩
  have HN : Hid (v.length = n) := hn
  rw [hn] at hl ⊢
  clear hn
  have hmm := make_map
  by_cases h4 : 4096 < n
  · have HE : Hid (viewErr v = 2) := viewErr_many (by rw [HN.out]; exact h4)
    go_enter Tryz.func45, Tryz.ntmps45
    go_wp2
    go_ret2
    exact ⟨.inr ⟨by rw [HE.out]; decide, ret_map HE.out.symm⟩, Below.refl _ _⟩
  · go_enter Tryz.func45, Tryz.ntmps45
    go_wp2
    go_loopw [17] (fun i wr => ∃ k : Nat, k ≤ n ∧ i = .int .i64 k ∧ cmap wr w.heap.size k (kvOf (v.take k)) ∧ Below w.heap.size w wr ∧ (∀ i, i < k → okAt v i)) (fun i _ => n - (intOf i).toNat)
    case atStart => exact ⟨0, by omega, rfl, cmap_made w, (Below.refl _ _).alloc (Nat.le_refl _) _, fun i hi => absurd hi (Nat.not_lt_zero i)⟩
    case round =>
      obtain ⟨k, hk, rfl, hcm, hnx, hall⟩ := hrel
      have HC : Hid (cmap wr w.heap.size k (kvOf (v.take k))) := hcm
      have HA : Hid (∀ i, i < k → okAt v i) := hall
      have hsz := hnx.size
      have hBlt := cmap_lt hcm
      clear hcm hall
      by_cases hlt : k < n
      · have hkv : k < v.length := by rw [HN.out]; exact hlt
        obtain ⟨b, o, ra, rc, e, x1, x2, x3⟩ := hv k hkv
        subst e
        obtain ⟨ww1, ww2, ww3, ww4⟩ := wfv_at hw k hkv
        have q1 := cell_later hnx x1
        have q3 := cell_later hnx x3
        have HR : Hid (vl.rowAt wr ra (v.getD k default).r) := rowAt_below x2 hnx
        have i1 : (0 : Int) ≤ (k : Int) := by omega
        have i2 : (k : Int) < (n : Int) := by omega
        have HB : Hid (¬ okAt v k → viewErr v = 1) := viewErr_bad (by rw [HN.out]; exact h4) k hkv
        have HS : Hid ((∀ i, i ≤ k → okAt v i) → putK (kvOf (v.take k)) (encR (v.getD k default).r) (v.getD k default).n = kvOf (v.take (k + 1))) := kv_step hw k hkv
        have HOK : Hid (okAt v k → rowOk (v.getD k default).r) := fun h => ok_row hw hkv h
        have HDEF : Hid (okAt v k ↔ keyErr (v.getD k default).r = 0 ∧ 1 ≤ (v.getD k default).n ∧ (v.getD k default).n ≤ 1073741824 ∧ (0 < k → cmpRows (v.getD (k - 1) default).r (v.getD k default).r < 0)) := Iff.rfl
        obtain ⟨⟨r, m⟩, hcv⟩ : ∃ c, v.getD k default = c := ⟨_, rfl⟩
        rw [hcv] at q1 q3 HR HS HOK HDEF ww1 ww2 ww3 ww4
        dsimp only at q1 q3 HR HS HOK HDEF ww1 ww2 ww3 ww4
        clear x1 x2 x3
        obtain ⟨rl, hrl⟩ : ∃ l, r.length = l := ⟨_, rfl⟩
        rw [hrl] at q1
        have KK : Hid (∀ w, vl.rowAt w ra r → Calls Tryz.prog 51 #[.slice ra rl rc] w fun e w' => e = .returned (.tuple #[.string (keyS r), .int .i64 (keyErr r)]) ∧ Below w.heap.size w w') := by
          subst hrl; exact fun w h => key_any ra rc r w h ww1 ww2
        by_cases e1 : keyErr r = 0
        · by_cases e2 : m < 1
          · have HE : Hid (viewErr v = 1) := HB.out (fun h => by have := (HDEF.out.1 h).2.1; omega)
            go_wp2_with (go_at_call 51; refine (KK.out _ (rowAt_below HR.out ((Below.refl _ _).alloc (Nat.le_refl _) _))).mono ?_; rintro e wa ⟨rfl, hba⟩; have g0 := cell_later hba (a := ⟨wr.heap.size, 0, none⟩) (v := .slice ra rl rc) (by go_simp); have g1 := cell_later hba (a := ⟨wr.heap.size, 1, none⟩) (v := .int .i64 m) (by go_simp); have hla := (hnx.alloc hsz _).trans (hba.mono (by simp; omega)); have HCW := cmap_below (cmap_alloc HC.out _) hba; have hbw : Below wr.heap.size wr wa := ((Below.refl _ _).alloc (Nat.le_refl _) _).trans (hba.mono (by simp)))
            go_ret2
            exact ⟨.inr ⟨by rw [HE.out]; decide, ret_map HE.out.symm⟩, hla⟩
          · have e2' : decide (m < 1) = false := decide_eq_false e2
            by_cases e3 : 1073741824 < m
            · have HE : Hid (viewErr v = 1) := HB.out (fun h => by have := (HDEF.out.1 h).2.2.1; omega)
              go_wp2_with (go_at_call 51; refine (KK.out _ (rowAt_below HR.out ((Below.refl _ _).alloc (Nat.le_refl _) _))).mono ?_; rintro e wa ⟨rfl, hba⟩; have g0 := cell_later hba (a := ⟨wr.heap.size, 0, none⟩) (v := .slice ra rl rc) (by go_simp); have g1 := cell_later hba (a := ⟨wr.heap.size, 1, none⟩) (v := .int .i64 m) (by go_simp); have hla := (hnx.alloc hsz _).trans (hba.mono (by simp; omega)); have HCW := cmap_below (cmap_alloc HC.out _) hba; have hbw : Below wr.heap.size wr wa := ((Below.refl _ _).alloc (Nat.le_refl _) _).trans (hba.mono (by simp)))
              go_ret2
              exact ⟨.inr ⟨by rw [HE.out]; decide, ret_map HE.out.symm⟩, hla⟩
            · have e3' : decide (1073741824 < m) = false := decide_eq_false e3
              have hok8 : rowOk r := vl_rowOk e1 ww1
              have HKS : Hid ((keyS r).data.toList = encR r) := keyS_ok hok8
              have HKL : Hid ((keyS r).size ≤ maxLen) := Nat.le_trans (keyS_len hok8) (by unfold maxLen; omega)
              obtain ⟨ks, hks⟩ : ∃ s, keyS r = s := ⟨_, rfl⟩
              rw [hks] at KK HKS HKL
              have HKY : Hid (keyOf Tryz.prog 9 (.string ks) = some (.string (encR r))) := by
                have h := keyOf_string_mk Tryz.underlying9 HKL.out
                rw [HKS.out] at h
                exact h
              clear hks hok8
              by_cases e4 : k = 0
              · subst e4
                simp only [Nat.zero_mul, Nat.add_zero] at q1 q3
                have HE : Hid (okAt v 0) := HDEF.out.2 ⟨e1, by omega, by omega, fun h => absurd h (by omega)⟩
                go_wp2_with (go_at_call 51; refine (KK.out _ (rowAt_below HR.out ((Below.refl _ _).alloc (Nat.le_refl _) _))).mono ?_; rintro e wa ⟨rfl, hba⟩; have g0 := cell_later hba (a := ⟨wr.heap.size, 0, none⟩) (v := .slice ra rl rc) (by go_simp); have g1 := cell_later hba (a := ⟨wr.heap.size, 1, none⟩) (v := .int .i64 m) (by go_simp); have hla := (hnx.alloc hsz _).trans (hba.mono (by simp; omega)); have HCW := cmap_below (cmap_alloc HC.out _) hba; have hbw : Below wr.heap.size wr wa := ((Below.refl _ _).alloc (Nat.le_refl _) _).trans (hba.mono (by simp)))
                go_quiet (fail)
                have HCD : cmap (wa.drewN nq) w.heap.size 0 (kvOf (v.take 0)) := HCW
                have hld := below_drewN hla nq
                go_wp2_with (at_mapUpdate; refine wpList_mapUpdate_own _ rfl (.tmp 54) (.tmp 55) (.tmp 57) 84 rfl 9 3 law Tryz.underlying84 _ w.heap.size 0 _ rfl HCD (by unfold maxLen; omega) _ _ (.string (encR r)) rfl rfl HKY.out _ [] (plainElem_int Tryz.underlying3 (WalkArith.wf_i64 (by omega))) ?_; intro w1 hown1 hgrow1)
                go_roundw
                case rel => exact ⟨0 + 1, by omega, by go_num, by rw [← HS.out (fun i hi => by rw [show i = 0 by omega]; exact HE.out)]; exact cmap_put hown1, hld.grown hgrow1 hld.size (fun j hj => by cases hj; exact Nat.le_refl _), fun i hi => by rw [show i = 0 by omega]; exact HE.out⟩
                case measure => simp [intOf]; omega
              · obtain ⟨j, rfl⟩ : ∃ j, k = j + 1 := ⟨k - 1, by omega⟩
                have hjv : j < v.length := by rw [HN.out]; omega
                obtain ⟨b', o', pa, pc, e', y1, y2, y3⟩ := hv j hjv
                cases e'
                have p1 := cell_later hnx y1
                have HPR : Hid (vl.rowAt wr pa (v.getD j default).r) := rowAt_below y2 hnx
                obtain ⟨vv1, vv2, _, _⟩ := wfv_at hw j hjv
                have HD2 : Hid (okAt v (j + 1) ↔ keyErr r = 0 ∧ 1 ≤ m ∧ m ≤ 1073741824 ∧ (cmpRows (v.getD j default).r r < 0)) := by
                  show okAt v (j + 1) ↔ _
                  rw [HDEF.out]
                  simp
                obtain ⟨pr, hpr⟩ : ∃ c, (v.getD j default).r = c := ⟨_, rfl⟩
                rw [hpr] at p1 HPR HD2 vv1 vv2
                clear y1 y2 y3 hpr HDEF e4
                obtain ⟨pl, hpl⟩ : ∃ l, pr.length = l := ⟨_, rfl⟩
                rw [hpl] at p1
                have KR : Hid (∀ w, vl.rowAt w pa pr → vl.rowAt w ra r → Calls Tryz.prog 76 #[.slice pa pl pc, .slice ra rl rc] w fun e w' => e = .returned (.int .i64 (cmpRows pr r)) ∧ Below w.heap.size w w') := by
                  subst hpl hrl; exact fun w h h' => rows_any pa ra pc rc pr r w h h' vv2 ww2
                have hj1 : (0 : Int) < ((j : Int) + 1) := by omega
                have hj2 : ((j : Int)) < (n : Int) := by omega
                have hj3 : (0 : Int) ≤ (j : Int) := by omega
                have hwj1 : IntKind.i64.wrap ((j : Int) + 1 - 1) = (j : Int) := by rw [wrap_is]; omega
                have hwj2 : IntKind.i64.wrap (j : Int) = (j : Int) := by rw [wrap_is]; omega
                obtain ⟨cc, hcc⟩ : ∃ c, cmpRows pr r = c := ⟨_, rfl⟩
                rw [hcc] at KR HD2
                clear hcc hpl hrl vv1 vv2
                by_cases e5 : 0 ≤ cc
                · have HE : Hid (viewErr v = 1) := HB.out (fun h => by have := (HD2.out.1 h).2.2.2; omega)
                  go_wp2_with (go_at_call 51; refine (KK.out _ (rowAt_below HR.out ((Below.refl _ _).alloc (Nat.le_refl _) _))).mono ?_; rintro e wa ⟨rfl, hba⟩; have g0 := cell_later hba (a := ⟨wr.heap.size, 0, none⟩) (v := .slice ra rl rc) (by go_simp); have g1 := cell_later hba (a := ⟨wr.heap.size, 1, none⟩) (v := .int .i64 m) (by go_simp); have hla := (hnx.alloc hsz _).trans (hba.mono (by simp; omega)); have HCW := cmap_below (cmap_alloc HC.out _) hba; have hbw : Below wr.heap.size wr wa := ((Below.refl _ _).alloc (Nat.le_refl _) _).trans (hba.mono (by simp)))
                  have p1a := cell_later hbw p1
                  have HPA : Hid (vl.rowAt wa.drew pa pr) := rowAt_below HPR.out hbw.drew
                  have HRA : Hid (vl.rowAt wa.drew ra r) := rowAt_below HR.out hbw.drew
                  go_region_held3 (fun w' => w'.cell? ⟨b, o + j * 2, none⟩ = some (.slice pa pl pc) ∧ w'.cell? ⟨wr.heap.size, 0, none⟩ = some (.slice ra rl rc)) (first | go_keep | exact ⟨cell_later hbr p1a, cell_later hbr g0⟩)
                    (first | (go_at_call 76; refine (KR.out wa.drew HPA.out HRA.out).mono ?_; rintro e wq ⟨rfl, hbr⟩))
                  all_goals
                    go_wp2
                    go_ret2
                    exact ⟨.inr ⟨by rw [HE.out]; decide, ret_map HE.out.symm⟩, by first | exact hla.trans (hbr.mono hla.size) | exact hla.drew.trans (hbr.mono hla.size)⟩
                · have HE : Hid (okAt v (j + 1)) := HD2.out.2 ⟨e1, by omega, by omega, by omega⟩
                  have e5' : ¬ 0 ≤ cc := e5
                  go_wp2_with (go_at_call 51; refine (KK.out _ (rowAt_below HR.out ((Below.refl _ _).alloc (Nat.le_refl _) _))).mono ?_; rintro e wa ⟨rfl, hba⟩; have g0 := cell_later hba (a := ⟨wr.heap.size, 0, none⟩) (v := .slice ra rl rc) (by go_simp); have g1 := cell_later hba (a := ⟨wr.heap.size, 1, none⟩) (v := .int .i64 m) (by go_simp); have hla := (hnx.alloc hsz _).trans (hba.mono (by simp; omega)); have HCW := cmap_below (cmap_alloc HC.out _) hba; have hbw : Below wr.heap.size wr wa := ((Below.refl _ _).alloc (Nat.le_refl _) _).trans (hba.mono (by simp)))
                  have p1a := cell_later hbw p1
                  have HPA : Hid (vl.rowAt wa.drew pa pr) := rowAt_below HPR.out hbw.drew
                  have HRA : Hid (vl.rowAt wa.drew ra r) := rowAt_below HR.out hbw.drew
                  go_region_held3 (fun w' => w'.cell? ⟨b, o + j * 2, none⟩ = some (.slice pa pl pc) ∧ w'.cell? ⟨wr.heap.size, 0, none⟩ = some (.slice ra rl rc)) (first | go_keep | exact ⟨cell_later hbr p1a, cell_later hbr g0⟩)
                    (first | (go_at_call 76; refine (KR.out wa.drew HPA.out HRA.out).mono ?_; rintro e wq ⟨rfl, hbr⟩))
                  all_goals
                    have hlq : Below w.heap.size w wq := by first | exact hla.trans (hbr.mono hla.size) | exact hla.drew.trans (hbr.mono hla.size)
                    have g1q := cell_later hbr g1
                    have HCD : cmap wa.drew w.heap.size (j + 1) (kvOf (v.take (j + 1))) := HCW
                    have HCQ := cmap_below HCD hbr
                    go_wp2_with (at_mapUpdate; refine wpList_mapUpdate_own _ rfl (.tmp 54) (.tmp 55) (.tmp 57) 84 rfl 9 3 law Tryz.underlying84 _ w.heap.size (j + 1) _ rfl HCQ (by unfold maxLen; omega) _ _ (.string (encR r)) rfl rfl HKY.out _ [] (plainElem_int Tryz.underlying3 (WalkArith.wf_i64 (by omega))) ?_; intro w1 hown1 hgrow1)
                    go_roundw
                    case rel => exact ⟨j + 1 + 1, by omega, by go_num, by rw [← HS.out (upto_succ HA.out HE.out)]; exact cmap_put hown1, hlq.grown hgrow1 hlq.size (fun x hx => by cases hx; exact Nat.le_refl _), fun i hi => by
                      rcases Nat.lt_or_ge i (j + 1) with h | h
                      · exact HA.out i h
                      · rw [show i = j + 1 by omega]; exact HE.out⟩
                    case measure => simp [intOf]; omega
        · have e1' : (keyErr r == 0) = false := by simpa using e1
          have HE : Hid (viewErr v = 1) := HB.out (fun h => e1 (HDEF.out.1 h).1)
          go_wp2_with (go_at_call 51; refine (KK.out _ (rowAt_below HR.out ((Below.refl _ _).alloc (Nat.le_refl _) _))).mono ?_; rintro e wa ⟨rfl, hba⟩; have g0 := cell_later hba (a := ⟨wr.heap.size, 0, none⟩) (v := .slice ra rl rc) (by go_simp); have g1 := cell_later hba (a := ⟨wr.heap.size, 1, none⟩) (v := .int .i64 m) (by go_simp); have hla := (hnx.alloc hsz _).trans (hba.mono (by simp; omega)); have HCW := cmap_below (cmap_alloc HC.out _) hba; have hbw : Below wr.heap.size wr wa := ((Below.refl _ _).alloc (Nat.le_refl _) _).trans (hba.mono (by simp)))
          go_ret2
          exact ⟨.inr ⟨by rw [HE.out]; decide, ret_map HE.out.symm⟩, hla⟩
      · have hkn : k = n := by omega
        have HT : Hid (v.take k = v) := List.take_of_length_le (by rw [HN.out]; omega)
        have HO : Hid (viewOk v) := ⟨by rw [HN.out]; omega, fun i hi => HA.out i (by rw [HN.out] at hi; omega)⟩
        go_wp2
        go_ret2
        exact ⟨.inl ⟨viewErr_ok HO.out, HO.out, w.heap.size, rfl, Nat.le_refl _, by have h := HC.out; rw [HT.out, hkn] at h; rw [HN.out]; exact h⟩, hnx⟩
end Go.Proofs.YtbfbgdinhiglaaaGreat.ch

/- What view's closure does to the view that it makes: one row more. -/
namespace Go.Proofs.YtbfbgdinhiglaaaGreat.ch
open Go.ChangeShapes Go.WideShapes Go.ChangeAt Go.RowKit Go.Maps Go.WideMaps
open vl
set_option linter.unusedVariables false
set_option linter.unusedSimpArgs false

theorem infoC : (Tryz.prog.info? 71).map (fun i => (i.zero, i.size, i.bytes)) = some (some (.agg #[.slice none 0 0, .int .i64 0]), 2, 32) := by kernel_rfl

/-- fresh: the row of a key, in memory of its own -/
theorem fresh_any (r : List Cel) (k : ByteArray) (w : World) (h : rowOk r) (hk : encR r = k.data.toList) (hl : k.size ≤ maxLen) :
    Calls Tryz.prog 96 #[.string k] w fun e w' => (∃ ad cap, e = .returned (.slice ad r.length cap) ∧ ownV w' w.heap.size (.slice ad r.length cap) r) ∧ Below w.heap.size w w' := by
  obtain ⟨n, hn⟩ : ∃ n, r.length = n := ⟨_, rfl⟩
  have KB := back_yes k r w hl h hk
  rw [hn] at KB ⊢
  clear hn
  go_enter Tryz.func96, Tryz.ntmps96
  go_wp2_with fail
  refine KB.mono ?_
  rintro e w1 ⟨⟨ad, cap, rfl, ho⟩, hb⟩
  go_wp2
  go_ret
  exact ⟨⟨ad, cap, rfl, ho⟩, hb⟩

theorem own_below {w w' : World} {base : Nat} {e : TypeId} {size : Nat} {v : Value} {n : Nat} {xs : List Value} (h : w.ownsRow base e size v n xs) (hb : Below w.heap.size w w') : w'.ownsRow base e size v n xs := by
  refine ⟨h.1, ?_⟩
  rcases h.2 with h0 | ⟨g, cap, cur, hv, h1, hg, h2⟩
  · exact .inl h0
  · have hlt : g < w.heap.size := by
      rcases Nat.lt_or_ge g w.heap.size with hlt | hge
      · exact hlt
      · rw [Array.getElem?_eq_none hge] at hg; cases hg
    exact .inr ⟨g, cap, cur, hv, h1, by rw [hb.block g hlt]; exact hg, h2⟩

/-- the cells of a view's rows -/
def flat (l : List (Value × Int)) : List Value := l.flatMap fun p => [p.1, .int .i64 p.2]
theorem flat_snoc (l : List (Value × Int)) (x : Value) (n : Int) : flat (l ++ [(x, n)]) = flat l ++ [x, .int .i64 n] := by
  unfold flat; rw [List.flatMap_append]; simp

theorem step_app {ops : Array Oper} {o : Oper} {a : Act} {K : Act → World → Prop} {Q : Exit → Act → World → Prop} {E : Prop} (hgd : o.guard = none) (s x : Operand)
    (hop : o.op = .call { callee := .builtin .append, args := #[s, x], argTypes := #[27, 27] })
    (base : Nat) (v : Value) (l : List (Value × Int)) (n : Int) (ad : Option Addr) (rl cap : Nat) (w1 : World) (ln : Nat) (hln : l.length = ln) (ho : w1.ownsRow base 71 2 v ln (flat l)) (hl : ln ≤ 1000000) (hb : base ≤ w1.heap.size)
    (hs : a.eval s = v) (hx : a.eval x = .slice (some ⟨w1.heap.size, 0, none⟩) 1 1)
    (h : ∀ g cap2 w2, w2.ownsRow base 71 2 (.slice (some ⟨g, 0, none⟩) (ln + 1) cap2) (ln + 1) (flat (l ++ [(.slice ad rl cap, n)])) → (w1.alloc (.cells #[.slice ad rl cap, .int .i64 n] 71)).grownBy w2 v.ownBlock → (v.ownBlock = some g ∨ g = w1.heap.size + 1) → g < w2.heap.size → K (a.put o.dst (.slice (some ⟨g, 0, none⟩) (ln + 1) cap2)) w2) :
    if Region.wanted o (yielded ops a.tmps) = true then Oper.wp Tryz.prog o a (w1.alloc (.cells #[.slice ad rl cap, .int .i64 n] 71)) K Q else E := by
  obtain ⟨i0, hi, hz0, hz1, hz2⟩ := info_parts infoC
  refine step_append_lies _ hgd s x 27 hop base 71 i0 (.agg #[.slice none 0 0, .int .i64 0]) 2 32 Tryz.underlying27 hi hz0 hz1 hz2 rfl (by decide) v ln (flat l) hs
    (ho.alloc _) ⟨w1.heap.size, 0, none⟩ 1 1 [.slice ad rl cap, .int .i64 n] hx rfl (cell_two_new _ _ _ _) (by intro u hu; simp at hu; rcases hu with rfl | rfl <;> rfl) (by decide) (by unfold maxLen; omega) (by omega) (by simp; omega) (w1.heap.size + 1) (by simp) ?_
  intro g cap2 w2 h2 h3 h4 h5
  exact h g cap2 w2 (by rw [flat_snoc]; exact h2) h3 h4 h5
theorem far_cell {w1 w2 : World} {o : Obj} {row : Option Nat} {C : Nat} {v : Value} (hg : (w1.alloc o).grownBy w2 row) (hc : w1.cell? ⟨C, 0, none⟩ = some v) (hne : row ≠ some C) : w2.cell? ⟨C, 0, none⟩ = some v := by
  have hlt := World.block_lt_of_cell? _ _ hc
  refine hg.cell ?_ (fun h => hne h.symm)
  rw [World.cell?_alloc_lt]
  · exact hc
  · exact hlt
theorem far_frozen {w1 w2 : World} {o : Obj} {row : Option Nat} {C : Nat} {v : Value} (hg : (w1.alloc o).grownBy w2 row) (hc : w1.cell? ⟨C, 0, none⟩ = some v) (hne : row ≠ some C) (hf : w1.frozen? ⟨C, 0, none⟩ = false) : w2.frozen? ⟨C, 0, none⟩ = false := by
  have hlt := World.block_lt_of_cell? _ _ hc
  have hlt' : C < w1.heap.size := hlt
  rw [hg.frozen_far ⟨C, 0, none⟩ (by simp; omega) (fun h => hne h.symm)]
  have hb := ((Below.refl w1.heap.size w1).alloc (Nat.le_refl _) o).frozen (p := ⟨C, 0, none⟩) hlt'
  exact hb.trans hf

set_option maxRecDepth 10000 in
set_option maxHeartbeats 4000000 in
theorem tell_any (C base : Nat) (k : ByteArray) (n : Int) (v : Value) (l : List (Value × Int)) (r : List Cel) (w : World) (hc : w.cell? ⟨C, 0, none⟩ = some v) (hf : w.frozen? ⟨C, 0, none⟩ = false)
    (ho : w.ownsRow base 71 2 v l.length (flat l)) (hCv : v.ownBlock ≠ some C) (hl : l.length ≤ 1000000) (hb : base ≤ w.heap.size) (hr : rowOk r) (hk : encR r = k.data.toList) (hkl : k.size ≤ maxLen) :
    Calls Tryz.prog 95 #[.string k, .int .i64 n, .pointer (some ⟨C, 0, none⟩)] w fun e w' => e = .returned (.tuple #[]) ∧ ∃ w1 w2 ad cap g cap2,
      Below w.drew.heap.size w.drew w1 ∧ ownV w1 w.heap.size (.slice ad r.length cap) r ∧ w2.ownsRow base 71 2 (.slice (some ⟨g, 0, none⟩) (l.length + 1) cap2) (l.length + 1) (flat (l ++ [(.slice ad r.length cap, n)])) ∧
      (w1.alloc (.cells #[.slice ad r.length cap, .int .i64 n] 71)).grownBy w2 v.ownBlock ∧ (v.ownBlock = some g ∨ g = w1.heap.size + 1) ∧ w' = w2.setCell ⟨C, 0, none⟩ (.slice (some ⟨g, 0, none⟩) (l.length + 1) cap2) := by
  have hclt := World.block_lt_of_cell? _ _ hc
  have HF := fresh_any r k w.drew hr hk hkl
  obtain ⟨rl, hrl⟩ : ∃ x, r.length = x := ⟨_, rfl⟩
  have HRL : Hid (r.length = rl) := hrl
  rw [hrl] at HF
  obtain ⟨ln, hln⟩ : ∃ x, l.length = x := ⟨_, rfl⟩
  have HLN : Hid (l.length = ln) := hln
  rw [hln] at ho hl
  obtain ⟨i0, hi, hz0, hz1, hz2⟩ := info_parts infoC
  have HI : Hid (Tryz.prog.info? 71 = some i0 ∧ i0.zero = some (.agg #[.slice none 0 0, .int .i64 0]) ∧ i0.size = 2 ∧ i0.bytes = 32) := ⟨hi, hz0, hz1, hz2⟩
  have HFF : Hid (Calls Tryz.prog 96 #[.string k] w.drew fun e w' => (∃ ad cap, e = .returned (.slice ad rl cap) ∧ ownV w' w.drew.heap.size (.slice ad rl cap) r) ∧ Below w.drew.heap.size w.drew w') := HF
  have HO : Hid (w.drew.ownsRow base 71 2 v ln (flat l)) := ho.drew
  clear HF hrl hln hi hz0 hz1 hz2 ho
  go_enter Tryz.func95, Tryz.ntmps95
  go_wp2
  go_region_law (first
      | (refine step_app (by rfl) (.tmp 5) (.tmp 10) (by rfl) base v l n ad rl cap w1 ln HLN.out HO1.out hl (Nat.le_trans hb hb1.size) (by rfl) (by rfl) ?_; intro g cap2 w2 hown2 hgrow2 hat2 hlt2; have hc2 : w2.cell? ⟨C, 0, none⟩ = some v := far_cell hgrow2 hc1 hCv; have hf2 : w2.frozen? ⟨C, 0, none⟩ = false := far_frozen hgrow2 hc1 hCv ((hb1.frozen (p := ⟨C, 0, none⟩) hclt).trans hf))
      | (go_simp; go_at_call 96; refine HFF.out.mono ?_; rintro e w1 ⟨⟨ad, cap, rfl, hov⟩, hb1⟩; have hc1 : w1.cell? ⟨C, 0, none⟩ = some v := cell_later hb1 hc; have hc1a : ∀ o, (w1.alloc o).cell? ⟨C, 0, none⟩ = some v := fun o => cell_later ((Below.refl _ _).alloc (Nat.le_refl _) o) hc1; have HO1 : Hid (w1.ownsRow base 71 2 v ln (flat l)) := own_below HO.out hb1))
  all_goals
    go_wp2
    go_end0
    refine ⟨rfl, w1, w2, ad, cap, g, cap2, hb1, ?_, ?_, ?_, hat2, ?_⟩
    · rw [HRL.out]; exact hov
    · rw [HLN.out, HRL.out]; exact hown2
    · rw [HRL.out]; exact hgrow2
    · rw [HLN.out]
end Go.Proofs.YtbfbgdinhiglaaaGreat.ch
