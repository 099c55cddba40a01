/-
  The latest votes, plainly: what the laws of layer 12 want of them.
-/
import Derived.Test.YtccihllcohnnnaaQ11
namespace Go.Proofs.Ytccihllcohnnnaa
set_option maxRecDepth 100000

theorem bitU_bit {j : Nat} (hj : j < 64) (k : Nat) : hasB (bitU j) k = decide (j = k) := by
  unfold hasB bitU
  rw [UInt64.toNat_ofNat', Nat.mod_eq_of_lt (Nat.pow_lt_pow_right (by decide) hj), Nat.testBit_two_pow]
theorem add_bit {out : UInt64} {j : Nat} (hj : j < 64) (h : hasB out j = false) : out + bitU j = out ||| bitU j := by
  have h0 : out &&& bitU j = 0 := u64_ext fun i => by
    rw [bit_and]
    have h1 := bitU_bit hj i
    unfold hasB at h h1
    rw [h1]
    by_cases e : j = i
    · subst e; rw [h, Bool.false_and]; exact (Nat.zero_testBit j).symm
    · rw [decide_eq_false e, Bool.and_false]; exact (Nat.zero_testBit i).symm
  apply UInt64.toBitVec_inj.1
  rw [UInt64.toBitVec_add, UInt64.toBitVec_or]
  refine BitVec.add_eq_or_of_and_eq_zero _ _ ?_
  rw [← UInt64.toBitVec_and, h0]
  rfl
theorem has_add {out : UInt64} {j : Nat} (hj : j < 64) (h : hasB out j = false) (k : Nat) : hasB (out + bitU j) k = (hasB out k || decide (j = k)) := by
  rw [add_bit hj h, ← bitU_bit hj k]
  exact bit_or _ _ _
theorem has_zero (k : Nat) : hasB 0 k = false := Nat.zero_testBit k

section
variable {v : Vt} {i : Nat} {r : Rt} {ep : UInt64}
theorem fate_zero (h : fateV v i r ep = 0) : stepV v i r ep = v := by unfold stepV; rw [h]; rfl
theorem fate_one (h : fateV v i r ep = 1) : stepV v i r ep = ⟨v.l.set i ⟨true, r, ep⟩, v.out⟩ := by unfold stepV; rw [h]; rfl
theorem fate_two (h : fateV v i r ep = 2) : stepV v i r ep = ⟨v.l.set i zlt, v.out + bitU i⟩ := by unfold stepV; rw [h]; rfl
/-- What becomes of a vote, by cases. -/
theorem fate_cases (v : Vt) (i : Nat) (r : Rt) (ep : UInt64) :
    (fateV v i r ep = 0 ∧ (hasB v.out i = true ∨ (lat v.l i).has = true ∧ (ep.toNat < (lat v.l i).epoch.toNat ∨ (lat v.l i).epoch = ep ∧ (lat v.l i).root = r)))
    ∨ (fateV v i r ep = 1 ∧ hasB v.out i = false ∧ ((lat v.l i).has = false ∨ (lat v.l i).epoch.toNat < ep.toNat))
    ∨ (fateV v i r ep = 2 ∧ hasB v.out i = false ∧ (lat v.l i).has = true ∧ (lat v.l i).epoch = ep ∧ (lat v.l i).root ≠ r) := by
  unfold fateV
  by_cases h1 : hasB v.out i = true
  · rw [if_pos h1]; exact .inl ⟨rfl, .inl h1⟩
  · rw [if_neg h1]
    have h1' : hasB v.out i = false := by simpa using h1
    by_cases h2 : (lat v.l i).has = true ∧ (ep.toNat < (lat v.l i).epoch.toNat ∨ (lat v.l i).epoch = ep ∧ (lat v.l i).root = r)
    · rw [if_pos h2]; exact .inl ⟨rfl, .inr h2⟩
    · rw [if_neg h2]
      by_cases h3 : (lat v.l i).has = true ∧ (lat v.l i).epoch = ep
      · rw [if_pos h3]; exact .inr (.inr ⟨rfl, h1', h3.1, h3.2, fun e => h2 ⟨h3.1, .inr ⟨h3.2, e⟩⟩⟩)
      · rw [if_neg h3]
        refine .inr (.inl ⟨rfl, h1', ?_⟩)
        by_cases h4 : (lat v.l i).has = true
        · refine .inr ?_
          have h5 : ¬ ep.toNat < (lat v.l i).epoch.toNat := fun e => h2 ⟨h4, .inl e⟩
          have h6 : (lat v.l i).epoch.toNat ≠ ep.toNat := fun e => h3 ⟨h4, UInt64.toNat_inj.1 e⟩
          omega
        · exact .inl (by simpa using h4)
theorem step_len : (stepV v i r ep).l.length = v.l.length := by
  rcases fate_cases v i r ep with h | h | h
  · rw [fate_zero h.1]
  · rw [fate_one h.1]; exact List.length_set
  · rw [fate_two h.1]; exact List.length_set
theorem step_other {j : Nat} (hi : i < v.l.length) (h : j ≠ i) : lat (stepV v i r ep).l j = lat v.l j := by
  rcases fate_cases v i r ep with e | e | e
  · rw [fate_zero e.1]
  · rw [fate_one e.1]; show lat (v.l.set i _) j = _; rw [lat_set hi, if_neg h]
  · rw [fate_two e.1]; show lat (v.l.set i _) j = _; rw [lat_set hi, if_neg h]
theorem step_may (hm : mayV v = true) (hi : i < v.l.length) : mayV (stepV v i r ep) = true := by
  have hm' := mayV_iff.1 hm
  obtain ⟨h1, h8, hok⟩ := hm'
  rcases fate_cases v i r ep with e | ⟨e, e1, _⟩ | ⟨e, e1, _⟩
  · rw [fate_zero e.1]; exact hm
  · rw [fate_one e]
    refine mayV_iff.2 ⟨by show 1 ≤ (v.l.set i _).length; rw [List.length_set]; exact h1, by show (v.l.set i _).length ≤ 8; rw [List.length_set]; exact h8, fun j hj => okAt_iff.2 ⟨fun q => by show j < (v.l.set i _).length; rw [List.length_set]; exact (okAt_iff.1 (hok j hj)).1 q, fun q1 q2 => ?_⟩⟩
    have q1' : j < v.l.length := by have : j < (v.l.set i (Lt.mk true r ep)).length := q1; rwa [List.length_set] at this
    show lat (v.l.set i _) j = zlt
    have q2' : hasB v.out j = true ∨ (lat (v.l.set i ⟨true, r, ep⟩) j).has = false := q2
    rw [lat_set hi] at q2' ⊢
    by_cases e2 : j = i
    · subst e2; rw [if_pos rfl, e1] at q2'; rcases q2' with q | q <;> cases q
    · rw [if_neg e2] at q2' ⊢; exact (okAt_iff.1 (hok j hj)).2 q1' q2'
  · rw [fate_two e]
    have hi64 : i < 64 := by omega
    refine mayV_iff.2 ⟨by show 1 ≤ (v.l.set i _).length; rw [List.length_set]; exact h1, by show (v.l.set i _).length ≤ 8; rw [List.length_set]; exact h8, fun j hj => okAt_iff.2 ⟨fun q => ?_, fun q1 q2 => ?_⟩⟩
    · show j < (v.l.set i _).length
      rw [List.length_set]
      have q' : hasB (v.out + bitU i) j = true := q
      rw [has_add hi64 e1, Bool.or_eq_true, decide_eq_true_iff] at q'
      rcases q' with q | q
      · exact (okAt_iff.1 (hok j hj)).1 q
      · omega
    · have q1' : j < v.l.length := by have : j < (v.l.set i zlt).length := q1; rwa [List.length_set] at this
      show lat (v.l.set i zlt) j = zlt
      have q2' : hasB (v.out + bitU i) j = true ∨ (lat (v.l.set i zlt) j).has = false := q2
      rw [lat_set hi] at q2' ⊢
      by_cases e2 : j = i
      · rw [if_pos e2]
      · rw [if_neg e2] at q2' ⊢
        rw [has_add hi64 e1, decide_eq_false (fun e => e2 e.symm), Bool.or_false] at q2'
        exact (okAt_iff.1 (hok j hj)).2 q1' q2'
/-- Put again, it is ignored. -/
theorem step_again (hm : mayV v = true) (hi : i < v.l.length) : fateV (stepV v i r ep) i r ep = 0 := by
  have h8 : v.l.length ≤ 8 := (mayV_iff.1 hm).2.1
  rcases fate_cases v i r ep with e | ⟨e, e1, _⟩ | ⟨e, e1, _⟩
  · rw [fate_zero e.1]; exact e.1
  · rw [fate_one e]
    unfold fateV
    rw [if_neg (by show ¬ hasB v.out i = true; rw [e1]; exact Bool.false_ne_true)]
    refine if_pos ?_
    show (lat (v.l.set i _) i).has = true ∧ _
    rw [show lat (v.l.set i ⟨true, r, ep⟩) i = ⟨true, r, ep⟩ from by rw [lat_set hi, if_pos rfl]]
    exact ⟨rfl, .inr ⟨rfl, rfl⟩⟩
  · rw [fate_two e]
    unfold fateV
    refine if_pos ?_
    show hasB (v.out + bitU i) i = true
    rw [has_add (by omega) e1, decide_eq_true rfl, Bool.or_true]
theorem put_step {z : Int} (hm : mayV v = true) (h : 0 ≤ z ∧ z < v.l.length) : putV v z r ep = stepV v z.toNat r ep ∧ putVk v z r ep = fateV v z.toNat r ep ∧ putVe v z = 0 := by
  have e : inV v z = true := decide_eq_true h
  unfold putV putVk putVe
  rw [if_pos ⟨hm, e⟩, if_pos ⟨hm, e⟩, if_pos hm, if_pos e]
  exact ⟨rfl, rfl, rfl⟩
theorem put_len {z : Int} : (putV v z r ep).l.length = v.l.length := by unfold putV; split; (· exact step_len); (· rfl)
theorem drop_len {keep : List Rt} : (dropV v keep).l.length = v.l.length := by unfold dropV; split; (· simp); (· rfl)
theorem new_len {n : Int} : (newV n).l.length ≤ 8 := by
  unfold newV
  by_cases h : newOkV n = true
  · have := of_decide_eq_true h
    rw [if_pos h]; simp; omega
  · rw [if_neg h]; simp
theorem new_may {n : Int} (h : newOkV n = true) : mayV (newV n) = true ∧ (newV n).l.length = n.toNat ∧ (newV n).out = 0 ∧ ∀ i, lat (newV n).l i = zlt := by
  have h' := of_decide_eq_true h
  have e : newV n = ⟨List.replicate n.toNat zlt, 0⟩ := by unfold newV; rw [if_pos h]
  have hl : ∀ i, lat (List.replicate n.toNat zlt) i = zlt := fun i => by
    unfold lat
    rw [List.getD_eq_getElem?_getD, List.getElem?_replicate]
    split <;> rfl
  rw [e]
  refine ⟨mayV_iff.2 ⟨by simp; omega, by simp; omega, fun i _ => okAt_iff.2 ⟨fun q => ?_, fun _ _ => hl i⟩⟩, by simp, rfl, hl⟩
  have : hasB 0 i = true := q
  rw [has_zero] at this
  cases this
theorem drop_eq {keep : List Rt} (hm : mayV v = true) : dropV v keep = ⟨v.l.map fun x => if stayB keep x = true then x else zlt, v.out⟩ := by unfold dropV; rw [if_pos hm]
theorem drop_lat {keep : List Rt} (hm : mayV v = true) (hi : i < v.l.length) : lat (dropV v keep).l i = if stayB keep (lat v.l i) = true then lat v.l i else zlt := by
  rw [drop_eq hm]
  show lat (v.l.map _) i = _
  rw [lat_in (by rw [List.length_map]; exact hi), lat_in hi, List.getElem_map]
theorem drop_may {keep : List Rt} (hm : mayV v = true) : mayV (dropV v keep) = true := by
  obtain ⟨h1, h8, hok⟩ := mayV_iff.1 hm
  refine mayV_iff.2 ⟨by rw [drop_len]; exact h1, by rw [drop_len]; exact h8, fun j hj => okAt_iff.2 ⟨fun q => ?_, fun q1 q2 => ?_⟩⟩
  · rw [drop_len]
    rw [drop_eq hm] at q
    exact (okAt_iff.1 (hok j hj)).1 q
  · rw [drop_len] at q1
    rw [drop_lat hm q1] at q2 ⊢
    by_cases e : stayB keep (lat v.l j) = true
    · rw [if_pos e] at q2 ⊢
      refine (okAt_iff.1 (hok j hj)).2 q1 ?_
      rw [drop_eq hm] at q2
      exact q2
    · rw [if_neg e]
theorem drop_drop {keep : List Rt} (hm : mayV v = true) : dropV (dropV v keep) keep = dropV v keep := by
  have h2 := drop_may (keep := keep) hm
  refine Vt.ext (lat_ext drop_len fun j hj => ?_) (by rw [drop_eq h2])
  rw [drop_lat h2 hj]
  rw [drop_len] at hj
  rw [drop_lat hm hj]
  by_cases e : stayB keep (lat v.l j) = true
  · rw [if_pos e, if_pos e]
  · rw [if_neg e]; split <;> rfl
theorem drop_out {keep : List Rt} : (dropV v keep).out = v.out := by unfold dropV; split <;> rfl
/-- Taken. -/
theorem taken_iff : fateV v i r ep = 1 ↔ ((lat v.l i).has = false ∨ (lat v.l i).epoch.toNat < ep.toNat) ∧ hasB v.out i = false := by
  rcases fate_cases v i r ep with ⟨e, h⟩ | ⟨e, h⟩ | ⟨e, h⟩
  · rw [e]
    refine ⟨fun q => (by cases q), fun q => ?_⟩
    rcases h with h | ⟨h, k⟩
    · rw [h] at q; cases q.2
    · rw [h] at q
      rcases q.1 with q | q
      · cases q
      · rcases k with k | k
        · omega
        · rw [k.1] at q; omega
  · rw [e]; exact ⟨fun _ => ⟨h.2, h.1⟩, fun _ => rfl⟩
  · rw [e]
    refine ⟨fun q => (by cases q), fun q => ?_⟩
    rcases q.1 with q | q
    · rw [h.2.1] at q; cases q
    · rw [h.2.2.1] at q; omega
theorem less_same (h : hasB v.out i = true ∨ (lat v.l i).has = true ∧ ep.toNat < (lat v.l i).epoch.toNat) : stepV v i r ep = v := by
  refine fate_zero ?_
  unfold fateV
  rcases h with h | h
  · rw [if_pos h]
  · by_cases e : hasB v.out i = true
    · rw [if_pos e]
    · rw [if_neg e, if_pos ⟨h.1, .inl h.2⟩]
end
end Go.Proofs.Ytccihllcohnnnaa
