/- groupOf: a joined row's values in Group (the document's). -/
import Derived.Test.YtcpanmaahhiioaaGreatMgBatJ
import Derived.Test.YtcpanmaahhiioaaGreatMgPlnG
namespace Go.Proofs.YtcpanmaahhiioaaGreat.bt
open Go.ChangeShapes Go.WideShapes Go.ChangeAt Go.RowKit
open vl pl
set_option linter.unusedVariables false
set_option linter.unusedSimpArgs false
set_option maxRecDepth 100000 in
set_option maxHeartbeats 4000000 in
theorem groupOf_any (p : Pln) (x : PA) (a : Option Addr) (ca : Nat) (r : List Cel) (w : World) (hp : planAt w p x) (hgl : p.group.length ≤ 1000) (hlr : r.length ≤ 9223372036854775807) (ha : vl.rowAt w a r) (hpl : ∀ z ∈ p.group, 0 ≤ z ∧ z < (r.length : Int)) :
    Calls Tryz.prog 60 #[planV p x, .slice a r.length ca] w fun e w' => (∃ ad' c', e = .returned (.slice ad' (pickR r p.group).length c') ∧ ownV w' w.heap.size (.slice ad' (pickR r p.group).length c') (pickR r p.group)) ∧ Below w.heap.size w w' := by
  have HA : Hid (vl.rowAt w a r) := ha
  have HL : Hid (intsAt w x.g p.group) := hp.g
  clear hp ha
  obtain ⟨kind, mode, low, high, size, limit, left, right, lkeys, rkeys, grouped, group, aggs⟩ := p
  obtain ⟨la, lc, rr, rc, lk, lkc, rk, rkc, g, gc, ag, ac⟩ := x
  unfold planV
  dsimp only at HL hgl hpl ⊢
  have HP : Hid (∀ i, i < group.length → 0 ≤ group.getD i 0 ∧ group.getD i 0 < (r.length : Int)) := fun i hi => hpl _ (getD_mem hi)
  obtain ⟨m, hm⟩ : ∃ z, r.length = z := ⟨_, rfl⟩
  obtain ⟨n, hn⟩ : ∃ z, group.length = z := ⟨_, rfl⟩
  have HM : Hid (r.length = m) := hm
  have HN : Hid (group.length = n) := hn
  rw [hm] at hlr HP ⊢
  rw [hn] at hgl HP ⊢
  clear hm hn hpl
  have HPK : Hid (∀ k, k < n → pickR r (group.take (k + 1)) = pickR r (group.take k) ++ [r.getD (group.getD k 0).toNat default]) := fun k hk => by
    show pickR r (group.take (k + 1)) = _
    rw [take_snocI group k (by rw [HN.out]; exact hk)]; simp [pickR]
  have HPE : Hid (∀ k, n ≤ k → pickR r (group.take k) = pickR r group) := fun k hk => by
    show pickR r (group.take k) = _
    rw [List.take_of_length_le (by rw [HN.out]; exact hk)]
  have HPL : Hid (∀ k, (pickR r (group.take k)).length ≤ n) := fun k => by
    show (pickR r (group.take k)).length ≤ n
    have : (group.take k).length ≤ group.length := by rw [List.length_take]; omega
    unfold pickR; rw [List.length_map, ← HN.out]; exact this
  obtain ⟨pn, hpn⟩ : ∃ z, (pickR r group).length = z := ⟨_, rfl⟩
  have HPN : Hid ((pickR r group).length = pn) := hpn
  rw [hpn]
  clear hpn
  obtain ⟨n6, h6⟩ : ∃ n, left.length = n := ⟨_, rfl⟩
  obtain ⟨n7, h7⟩ : ∃ n, right.length = n := ⟨_, rfl⟩
  obtain ⟨n8, h8⟩ : ∃ n, lkeys.length = n := ⟨_, rfl⟩
  obtain ⟨n9, h9⟩ : ∃ n, rkeys.length = n := ⟨_, rfl⟩
  obtain ⟨n12, h12⟩ : ∃ n, aggs.length = n := ⟨_, rfl⟩
  simp only [h6, h7, h8, h9, h12]
  clear h6 h7 h8 h9 h12
  go_enter Tryz.func60, Tryz.ntmps60
  go_wp2
  generalize hW0 : (World.alloc w _) = W0
  have hb0 : Below w.heap.size w W0 := by rw [← hW0]; exact (Below.refl _ _).alloc (Nat.le_refl _) _
  have s11 : W0.cell? ⟨w.heap.size, 11, none⟩ = some (.slice g n gc) := by subst hW0; go_simp
  clear hW0
  go_loopw [5, 6] (fun v i wr => ∃ k : Nat, k ≤ n ∧ i = .int .i64 k ∧ ownV wr W0.heap.size v (pickR r (group.take k)) ∧ Below W0.heap.size W0 wr) (fun _ i _ => n - (intOf i).toNat)
  case atStart => exact ⟨0, Nat.zero_le _, rfl, World.ownsRow_nil _ _ _ _, Below.refl _ _⟩
  case round =>
    obtain ⟨k, hk, rfl, hov, hnx⟩ := hrel
    have HO : Hid (ownV wr W0.heap.size u5 (pickR r (group.take k))) := hov
    have hsz := hnx.size
    have hbr := hb0.trans (hnx.mono hb0.size)
    have c11 := cell_later hnx s11
    clear hov
    by_cases hlt : k < n
    · obtain ⟨b, o, e, xk⟩ := HL.out k (by rw [HN.out]; exact hlt)
      subst e
      have hpk := HP.out k hlt
      have HPKk := HPK.out k hlt
      obtain ⟨z, hz⟩ : ∃ z, group.getD k 0 = z := ⟨_, rfl⟩
      rw [hz] at xk hpk HPKk
      obtain ⟨zn, rfl⟩ := Int.eq_ofNat_of_zero_le hpk.1
      rw [Int.toNat_natCast] at HPKk
      obtain ⟨b1, o1, e1, x1, x2, x3⟩ := HA.out zn (by rw [HM.out]; omega)
      subst e1
      have qk := cell_later hbr xk
      have q1 := cell_later hbr x1
      have q2 := cell_later hbr x2
      have q3 := cell_later hbr x3
      obtain ⟨⟨kv, nv, sv⟩, hcv⟩ : ∃ z, r.getD zn default = z := ⟨_, rfl⟩
      rw [hcv] at q1 q2 q3 HPKk
      dsimp only at q1 q2 q3
      have HPK2 : Hid (pickR r (group.take (k + 1)) = pickR r (group.take k) ++ [⟨kv, nv, sv⟩]) := HPKk
      have i1 : (0 : Int) ≤ (k : Int) := by omega
      have i2 : (k : Int) < (n : Int) := by omega
      have i3 : (0 : Int) ≤ (zn : Int) := by omega
      have i4 : (zn : Int) < (m : Int) := by omega
      have hpl := HPL.out k
      obtain ⟨pr, hpr⟩ : ∃ z, pickR r (group.take k) = z := ⟨_, rfl⟩
      rw [hpr] at HO HPK2 hpl
      clear xk x1 x2 x3 hz hcv HPKk hpk hpr
      go_wp2_with (at_builtin; refine append_cell rfl (.tmp 14) (.tmp 23) rfl W0.heap.size u5 pr rfl wr HO.out ⟨kv, nv, sv⟩ wr.heap.size rfl rfl (by omega) hsz ?_; intro v2 w3 hown3 hgrow3)
      obtain ⟨ad2, c2, hv, _⟩ := own_form hown3
      have hbn := below_appendV hnx hsz HO.out hgrow3
      subst hv
      go_roundw
      case rel => exact ⟨k + 1, by omega, by go_num, by rw [HPK2.out]; exact hown3, hbn⟩
      case measure => simp [intOf]; omega
    · have HPEk := HPE.out k (by omega)
      obtain ⟨ad2, c2, hv, _⟩ := own_form HO.out
      rw [HPEk] at HO hv
      rw [HPN.out] at hv
      subst hv
      clear HPEk HPE HPK HPL
      go_wp2
      go_ret
      exact ⟨⟨_, _, rfl, World.ownsRow.mono HO.out hb0.size⟩, hbr⟩
end Go.Proofs.YtcpanmaahhiioaaGreat.bt
