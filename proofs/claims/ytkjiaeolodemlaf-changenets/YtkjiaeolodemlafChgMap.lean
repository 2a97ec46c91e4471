/- The counts of a view as a map from keys: what is looked up, put and struck, and what add does. -/
import Derived.Test.YtkjiaeolodemlafValOrder
import Derived.Test.YtkjiaeolodemlafValOpen
import Derived.Maps.OwnSet
import Derived.Maps.Ext
namespace Go.Proofs.Ytkjiaeolodemlaf.ch
open Go.ChangeShapes Go.WideShapes Go.ChangeAt Go.RowKit Go.Maps
open Go.WideAt Go.WideElems Go.WideMaps
set_option linter.unusedVariables false
set_option linter.unusedSimpArgs false

abbrev KV := List (List UInt8 × Int)
def insK (x : List UInt8 × Int) : KV → KV
  | [] => [x]
  | y :: r => if bytesBefore x.1 y.1 then x :: y :: r else y :: insK x r
def delK (kv : KV) (k : List UInt8) : KV := kv.filter fun p => !(p.1 == k)
def putK (kv : KV) (k : List UInt8) (n : Int) : KV := insK (k, n) (delK kv k)
def getK (kv : KV) (k : List UInt8) : Int := match kv.find? (fun p => p.1 == k) with | some p => p.2 | none => 0
def ent (p : List UInt8 × Int) : Lit × DataW Unit := (.string p.1, .lit (.int .i64 p.2))
def toD (kv : KV) : DataW Unit := .map (kv.map ent)

theorem ent_ins (x : List UInt8 × Int) (l : KV) : (insK x l).map ent = DataW.insert (ent x) (l.map ent) := by
  induction l with
  | nil => rfl
  | cons y r ih =>
    rw [insK, List.map_cons, DataW.insert]
    have e : (ent x).1.before (ent y).1 = bytesBefore x.1 y.1 := rfl
    rw [e]
    split
    · rfl
    · rw [List.map_cons, ih]
theorem ent_del (l : KV) (k : List UInt8) : (delK l k).map ent = (l.map ent).filter fun p => !p.1.sameKey (.string k) := by
  unfold delK
  rw [List.filter_map]
  rfl
theorem toD_put (kv : KV) (k : List UInt8) (n : Int) : (toD kv).put (.string k) (.lit (.int .i64 n)) = toD (putK kv k n) := by
  unfold toD putK
  rw [ent_ins, ent_del]
  rfl
theorem toD_del (kv : KV) (k : List UInt8) : (toD kv).del (.string k) = toD (delK kv k) := by
  unfold toD
  rw [ent_del]
  rfl
theorem toD_at (kv : KV) (k : List UInt8) : (toD kv).atKey (.string k) (.lit (.int .i64 0)) = .lit (.int .i64 (getK kv k)) := by
  unfold toD DataW.atKey getK
  simp only [List.find?_map]
  have e : ((fun p : Lit × DataW Unit => p.1.sameKey (.string k)) ∘ ent) = fun p => p.1 == k := rfl
  rw [e]
  cases kv.find? (fun p => p.1 == k) <;> rfl
theorem toD_size (kv : KV) : Maps.size (toD kv) = kv.length := by
  unfold toD; rw [Maps.size_eq, List.length_map]

theorem law : Keyed Try.prog 9 := string_keyed Try.underlying9
theorem zeroE (w : World) : (zeroValue 3).run Try.prog w = .ok (.int .i64 0) w := by kernel_rfl
/-- block B is a map that holds these counts -/
def cmap (w : World) (B nn : Nat) (kv : KV) : Prop := w.ownsMap Try.prog 9 (plainElem (H := Unit) Try.prog 3) B nn (toD kv)
theorem cmap_at {kv : KV} {k : List UInt8} {c : Int} (h : (toD kv).atKey (.string k) (.lit (.int .i64 0)) = .lit (.int .i64 c)) : c = getK kv k := by
  rw [toD_at] at h
  injection h with h
  injection h with _ h
  exact h.symm

/-- what add answers, and what it leaves -/
def addE (kv : KV) (k : List UInt8) (n : Int) : Int :=
  if getK kv k + n < 0 then 9 else if 1073741824 < getK kv k + n then 2 else if getK kv k + n = 0 then 0 else if getK kv k = 0 ∧ kv.length = 4096 then 2 else 0
def addV (kv : KV) (k : List UInt8) (n : Int) : KV :=
  if getK kv k + n < 0 then kv else if 1073741824 < getK kv k + n then kv else if getK kv k + n = 0 then delK kv k else if getK kv k = 0 ∧ kv.length = 4096 then kv else putK kv k (getK kv k + n)

set_option maxHeartbeats 2000000 in
theorem add_any (B nn : Nat) (kv : KV) (k : ByteArray) (n : Int) (w : World) (hm : cmap w B nn kv) (hk : k.size ≤ maxLen) (hnn : nn < maxLen)
    (h1 : -1152921504606846976 ≤ getK kv k.data.toList) (h2 : getK kv k.data.toList ≤ 1152921504606846976) (n1 : -1152921504606846976 ≤ n) (n2 : n ≤ 1152921504606846976) (hlen : kv.length ≤ 1152921504606846976) :
    Calls Try.prog 37 #[.map (some B), .string k, .int .i64 n] w fun e w' => e = .returned (.int .i64 (addE kv k.data.toList n)) ∧ cmap w' B (nn + 1) (addV kv k.data.toList n) ∧ w.grownBy w' (some B) := by
  have HM : Hid (cmap w B nn kv) := hm
  obtain ⟨h, hh⟩ : ∃ h, getK kv k.data.toList = h := ⟨_, rfl⟩
  have HH : Hid (getK kv k.data.toList = h) := hh
  rw [hh] at h1 h2
  unfold addE addV
  rw [hh]
  clear hh hm
  by_cases c1 : h + n < 0
  · rw [if_pos c1, if_pos c1]
    go_enter Try.func37, Try.ntmps37
    go_wp2_with (at_lookup; refine wpList_lookup_own_int _ rfl (.tmp 9) (.tmp 10) 40 rfl 9 3 .i64 law Try.underlying40 Try.underlying3 (zeroE _) B nn _ rfl HM.out _ (.string k.data.toList) rfl (keyOf_string_mk Try.underlying9 hk) ?_; intro c hat hwc; have hc : c = h := (cmap_at hat).trans HH.out; clear hat; subst hc)
    go_ret
    exact ⟨rfl, HM.out.mono (by omega), World.grownBy.refl _ _⟩
  · rw [if_neg c1, if_neg c1]
    by_cases c2 : 1073741824 < h + n
    · rw [if_pos c2, if_pos c2]
      go_enter Try.func37, Try.ntmps37
      go_wp2_with (at_lookup; refine wpList_lookup_own_int _ rfl (.tmp 9) (.tmp 10) 40 rfl 9 3 .i64 law Try.underlying40 Try.underlying3 (zeroE _) B nn _ rfl HM.out _ (.string k.data.toList) rfl (keyOf_string_mk Try.underlying9 hk) ?_; intro c hat hwc; have hc : c = h := (cmap_at hat).trans HH.out; clear hat; subst hc)
      go_ret
      exact ⟨rfl, HM.out.mono (by omega), World.grownBy.refl _ _⟩
    · rw [if_neg c2, if_neg c2]
      by_cases c3 : h + n = 0
      · rw [if_pos c3, if_pos c3]
        have c3' : (h + n == 0) = true := by rw [beq_iff_eq]; exact c3
        have HC3 : Hid (h + n = 0) := c3
        clear c3
        go_enter Try.func37, Try.ntmps37
        go_wp2_with (first
          | (at_lookup; refine wpList_lookup_own_int _ rfl (.tmp 9) (.tmp 10) 40 rfl 9 3 .i64 law Try.underlying40 Try.underlying3 (zeroE _) B nn _ rfl HM.out _ (.string k.data.toList) rfl (keyOf_string_mk Try.underlying9 hk) ?_; intro c hat hwc; have hc : c = h := (cmap_at hat).trans HH.out; clear hat; subst hc)
          | (at_delete; refine wpList_delete_own _ rfl (.tmp 24) (.tmp 25) 40 9 rfl 3 law Try.underlying40 _ B nn _ rfl HM.out _ (.string k.data.toList) rfl (keyOf_string_mk Try.underlying9 hk) ?_; intro w1 hown1 hturn1))
        go_ret
        exact ⟨rfl, by rw [toD_del] at hown1; exact hown1.mono (by omega), hturn1.grown⟩
      · rw [if_neg c3, if_neg c3]
        have c3' : (h + n == 0) = false := by rw [beq_eq_false_iff_ne]; exact c3
        by_cases c4 : h = 0
        · have c4' : (h == 0) = true := by rw [beq_iff_eq]; exact c4
          have HC4 : Hid (h = 0) := c4
          clear c4
          have hlx := fun ty => HM.out.len Try.underlying40 ty
          simp only [toD_size] at hlx
          by_cases c5 : kv.length = 4096
          · have c5' : ((kv.length : Int) == 4096) = true := by rw [beq_iff_eq]; omega
            rw [if_pos ⟨HC4.out, c5⟩, if_pos ⟨HC4.out, c5⟩]
            clear c5
            go_enter Try.func37, Try.ntmps37
            go_wp2_with (first
              | (at_lookup; refine wpList_lookup_own_int _ rfl (.tmp 9) (.tmp 10) 40 rfl 9 3 .i64 law Try.underlying40 Try.underlying3 (zeroE _) B nn _ rfl HM.out _ (.string k.data.toList) rfl (keyOf_string_mk Try.underlying9 hk) ?_; intro c hat hwc; have hc : c = h := (cmap_at hat).trans HH.out; clear hat; subst hc))
            go_ret
            exact ⟨rfl, HM.out.mono (by omega), World.grownBy.refl _ _⟩
          · have c5' : ((kv.length : Int) == 4096) = false := by rw [beq_eq_false_iff_ne]; omega
            rw [if_neg (fun h => c5 h.2), if_neg (fun h => c5 h.2)]
            go_enter Try.func37, Try.ntmps37
            go_wp2_with (first
              | (at_lookup; refine wpList_lookup_own_int _ rfl (.tmp 9) (.tmp 10) 40 rfl 9 3 .i64 law Try.underlying40 Try.underlying3 (zeroE _) B nn _ rfl HM.out _ (.string k.data.toList) rfl (keyOf_string_mk Try.underlying9 hk) ?_; intro c hat hwc; have hc : c = h := (cmap_at hat).trans HH.out; clear hat; subst hc)
              | (at_mapUpdate; refine wpList_mapUpdate_own _ rfl (.tmp 34) (.tmp 35) (.tmp 36) 40 rfl 9 3 law Try.underlying40 _ B nn _ rfl HM.out hnn _ _ (.string k.data.toList) rfl rfl (keyOf_string_mk Try.underlying9 hk) _ [] (plainElem_int Try.underlying3 (WalkArith.wf_i64 (by omega))) ?_; intro w1 hown1 hgrow1))
            go_ret
            exact ⟨rfl, by rw [toD_put] at hown1; exact hown1, hgrow1⟩
        · have c4' : (h == 0) = false := by rw [beq_eq_false_iff_ne]; exact c4
          rw [if_neg (fun h => c4 h.1), if_neg (fun h => c4 h.1)]
          go_enter Try.func37, Try.ntmps37
          go_wp2_with (first
            | (at_lookup; refine wpList_lookup_own_int _ rfl (.tmp 9) (.tmp 10) 40 rfl 9 3 .i64 law Try.underlying40 Try.underlying3 (zeroE _) B nn _ rfl HM.out _ (.string k.data.toList) rfl (keyOf_string_mk Try.underlying9 hk) ?_; intro c hat hwc; have hc : c = h := (cmap_at hat).trans HH.out; clear hat; subst hc)
            | (at_mapUpdate; refine wpList_mapUpdate_own _ rfl (.tmp 34) (.tmp 35) (.tmp 36) 40 rfl 9 3 law Try.underlying40 _ B nn _ rfl HM.out hnn _ _ (.string k.data.toList) rfl rfl (keyOf_string_mk Try.underlying9 hk) _ [] (plainElem_int Try.underlying3 (WalkArith.wf_i64 (by omega))) ?_; intro w1 hown1 hgrow1))
          go_ret
          exact ⟨rfl, by rw [toD_put] at hown1; exact hown1, hgrow1⟩
end Go.Proofs.Ytkjiaeolodemlaf.ch
