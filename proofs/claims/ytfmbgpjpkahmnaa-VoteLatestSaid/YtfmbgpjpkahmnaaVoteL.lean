/-
  The latest votes, plainly: one validator's votes, one behind the other.
-/
import Derived.Test.YtfmbgpjpkahmnaaVoteQ
namespace Go.Proofs.Ytfmbgpjpkahmnaa

/-- Of N validators the one at place j has voted: twice of one epoch, or its latest vote. -/
structure Lv (V : Vt) (N j : Nat) (tb : Bool) (want : Lt) : Prop where
  may : mayV V = true
  len : V.l.length = N
  lat : lat V.l j = want
  has : hasB V.out j = tb
  oth : ∀ k, k ≠ j → hasB V.out k = false
section
variable {V : Vt} {N j : Nat} {tb : Bool} {want : Lt} {r : Rt} {ep : UInt64}
theorem Lv.pos (h : Lv V N j tb want) : decide (0 < V.out.toNat) = tb := by
  cases tb
  · have : V.out = 0 := u64_ext fun k => by
      have h2 : hasB V.out k = false := by
        by_cases e : k = j
        · subst e; exact h.has
        · exact h.oth k e
      exact h2.trans (has_zero k).symm
    rw [this]; rfl
  · rw [decide_eq_true_iff]
    refine Nat.pos_of_ne_zero fun e => ?_
    have e2 : V.out = 0 := UInt64.toNat_inj.1 e
    have := h.has
    rw [e2, has_zero] at this
    cases this
theorem Lv.fate (h : Lv V N j tb want) : fateV V j r ep = if tb = true then 0 else if want.has = true ∧ (ep.toNat < want.epoch.toNat ∨ want.epoch.toNat = ep.toNat ∧ want.root = r) then 0 else if want.has = true ∧ want.epoch.toNat = ep.toNat then 2 else 1 := by
  unfold fateV
  rw [h.has, h.lat]
  simp only [UInt64.toNat_inj]
theorem Lv.zero (h : Lv V N j tb want) (e : fateV V j r ep = 0) : Lv (stepV V j r ep) N j tb want := by rw [fate_zero e]; exact h
theorem Lv.one (h : Lv V N j tb want) (hj : j < N) (e : fateV V j r ep = 1) : Lv (stepV V j r ep) N j tb ⟨true, r, ep⟩ := by
  have hj' : j < V.l.length := by rw [h.len]; exact hj
  refine ⟨step_may h.may hj', by rw [step_len]; exact h.len, ?_, ?_, ?_⟩
  · rw [fate_one e]; show _root_.Go.Proofs.Ytfmbgpjpkahmnaa.lat (V.l.set j _) j = _; rw [lat_set hj', if_pos rfl]
  · rw [fate_one e]; exact h.has
  · rw [fate_one e]; exact h.oth
theorem Lv.two (h : Lv V N j tb want) (hj : j < N) (e : fateV V j r ep = 2) : Lv (stepV V j r ep) N j true zlt := by
  have hj' : j < V.l.length := by rw [h.len]; exact hj
  have h8 : V.l.length ≤ 8 := (mayV_iff.1 h.may).2.1
  have hf : hasB V.out j = false := by
    rcases fate_cases V j r ep with q | q | q
    · rw [q.1] at e; cases e
    · rw [q.1] at e; cases e
    · exact q.2.1
  refine ⟨step_may h.may hj', by rw [step_len]; exact h.len, ?_, ?_, fun k hk => ?_⟩
  · rw [fate_two e]; show _root_.Go.Proofs.Ytfmbgpjpkahmnaa.lat (V.l.set j _) j = _; rw [lat_set hj', if_pos rfl]
  · rw [fate_two e]; show hasB (V.out + bitU j) j = true; rw [has_add (by omega) hf, decide_eq_true rfl, Bool.or_true]
  · rw [fate_two e]; show hasB (V.out + bitU j) k = false; rw [has_add (by omega) hf, h.oth k hk, decide_eq_false (fun q => hk q.symm)]; rfl
theorem lv_new {n : Int} (h : newOkV n = true) (j : Nat) : Lv (newV n) n.toNat j false zlt := by
  obtain ⟨m1, m2, m3, m4⟩ := new_may h
  exact ⟨m1, m2, m4 j, by rw [m3]; exact has_zero _, fun k _ => by rw [m3]; exact has_zero _⟩
end
end Go.Proofs.Ytfmbgpjpkahmnaa
